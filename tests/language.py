"""Looks for code outside the part of Python that the package keeps to.

It sees what can be seen of one file by its form, most of L2 to L8, L10, L12 to L28, and of all files together
which names are both methods and values (L18). Where a rule may be read in two ways, it holds to the narrower one.
"""

import ast
import builtins
import re

STATEMENTS = (
    ast.Module, ast.FunctionDef, ast.ClassDef, ast.ImportFrom, ast.arguments, ast.arg, ast.alias, ast.keyword,
    ast.Assign, ast.AugAssign, ast.If, ast.While, ast.For, ast.Return, ast.Break, ast.Continue, ast.Pass, ast.Raise,
    ast.Try, ast.ExceptHandler, ast.Expr,
)
EXPRESSIONS = (
    ast.Constant, ast.List, ast.Tuple, ast.Dict, ast.Set, ast.BinOp, ast.UnaryOp, ast.BoolOp, ast.Compare, ast.IfExp,
    ast.Call, ast.Attribute, ast.Subscript, ast.Slice, ast.ListComp, ast.comprehension, ast.JoinedStr,
    ast.FormattedValue, ast.Lambda, ast.Name, ast.expr_context, ast.operator, ast.unaryop, ast.boolop, ast.cmpop,
)
BUILTINS = set(
    "len range enumerate zip min max sum abs sorted reversed int str bool list tuple dict set frozenset isinstance ord "
    "repr any all divmod Exception ValueError TypeError KeyError IndexError LookupError ZeroDivisionError "
    "ArithmeticError OverflowError RuntimeError NotImplementedError AttributeError StopIteration".split()
)
METHODS = set(
    "append clear copy count endswith extend find get index insert isalnum isalpha isdigit islower isspace isupper "
    "items join keys ljust lower lstrip partition pop remove replace reverse rfind rjust rpartition rsplit rstrip "
    "setdefault split splitlines startswith strip update upper values zfill bit_length".split()
)
UNDERSCORED = set("__init__ __eq__ __repr__ __str__ __len__".split())
WORDS = re.compile(
    r"\b(type|typing|typing_extensions|enum|Enum|IntEnum|StrEnum|Flag|IntFlag|Generic|Protocol|ABC|ABCMeta|namedtuple"
    r"|NamedTuple|TypedDict|TYPE_CHECKING|abstractmethod)\b|dataclass|overload|contextmanager"
)
UNUSED = set("register mro elements open input version_info with_traceback add_note format format_map".split())
NO_VALUES = set(
    "items keys values pop update append clear extend insert remove reverse setdefault sort args encode format".split()
)
KEYWORDS = {
    "sorted": {"key", "reverse"}, "min": {"key", "default"}, "max": {"key", "default"}, "sum": {"start"},
    "enumerate": {"start"}, "zip": {"strict"},
}
WALKED = {"zip", "enumerate", "reversed", "range"}
WALKED_METHODS = {"items", "keys", "values"}
WALKERS = {"list", "tuple", "dict", "sorted", "sum", "any", "all", "enumerate", "zip", "min", "max"}


def signs_of(source):
    found = []
    for number, line in enumerate(source.split("\n"), start=1):
        if len(line) > 120:
            found.append((number, "L10"))
        if any(not " " <= sign <= "~" for sign in line):
            found.append((number, "L14"))
        if WORDS.search(line):
            found.append((number, "L17"))
    if len(source.splitlines()) > 400:
        found.append((401, "L10"))
    return found


def top_of(tree):
    found = []
    bound = []
    for place, node in enumerate(tree.body):
        if isinstance(node, ast.Expr):
            if place != 0 or not isinstance(node.value, ast.Constant):
                found.append((node.lineno, "L3"))
        elif isinstance(node, (ast.FunctionDef, ast.ClassDef)):
            bound.append(node.name)
        elif isinstance(node, ast.ImportFrom):
            bound.extend(alias.asname or alias.name for alias in node.names)
        elif isinstance(node, ast.Assign) and isinstance(node.targets[0], ast.Name):
            bound.append(node.targets[0].id)
        else:
            found.append((node.lineno, "L3"))
    if len(bound) != len(set(bound)):
        found.append((1, "L15"))
    return found


def names_of(node):
    if isinstance(node, ast.Name):
        return [node.id]
    if isinstance(node, ast.arg):
        return [node.arg]
    if isinstance(node, (ast.FunctionDef, ast.ClassDef)):
        return [node.name]
    if isinstance(node, ast.Attribute):
        return [node.attr]
    return []


def name_faults(node):
    found = []
    for name in names_of(node):
        if name.startswith("_") and name not in UNDERSCORED:
            found.append("L12")
        if name in UNUSED:
            found.append("L17")
    if isinstance(node, ast.Name):
        foreign = hasattr(builtins, node.id) and node.id not in BUILTINS
        shadowed = node.id in BUILTINS and not isinstance(node.ctx, ast.Load)
        if foreign or shadowed:
            found.append("L8")
    if isinstance(node, ast.arg) and hasattr(builtins, node.arg):
        found.append("L15")
    return found


def function_faults(node):
    found = []
    if node.end_lineno - node.lineno + 1 > 40:
        found.append("L10")
    told = node.args
    if told.vararg or told.kwarg or told.kwonlyargs or told.posonlyargs or node.decorator_list:
        found.append("L4")
    return found


def class_faults(node):
    found = []
    if len(node.bases) > 1 or node.keywords or node.decorator_list:
        found.append("L5")
    if any(not isinstance(part, (ast.FunctionDef, ast.Pass)) for part in node.body):
        found.append("L5")
    return found


def import_faults(node, package):
    inside = node.module is not None and node.module.startswith(package + ".")
    starred = any(alias.name == "*" for alias in node.names)
    return ["L2"] if node.level or not inside or starred else []


def statement_faults(node):
    if isinstance(node, ast.Assign):
        plain = len(node.targets) == 1 and not isinstance(node.targets[0], (ast.Tuple, ast.List))
        return [] if plain else ["L6"]
    if isinstance(node, (ast.For, ast.While)):
        return ["L6"] if node.orelse else []
    if isinstance(node, ast.Try):
        return ["L6"] if node.finalbody else []
    if isinstance(node, ast.ExceptHandler):
        names = [part.id for part in ast.walk(node.type) if isinstance(part, ast.Name)] if node.type else []
        return [] if names and "Exception" not in names and "TypeError" not in names else ["L19"]
    return []


def expression_faults(node):
    found = []
    if isinstance(node, ast.Constant):
        if isinstance(node.value, (float, bytes, complex)) or node.value is Ellipsis:
            found.append("L7")
        if isinstance(node.value, str) and "%" in node.value:
            found.append("L27")
    if isinstance(node, (ast.Div, ast.MatMult)):
        found.append("L7")
    if isinstance(node, ast.ListComp) and len(node.generators) != 1:
        found.append("L7")
    if isinstance(node, ast.comprehension) and len(node.ifs) > 1:
        found.append("L7")
    if isinstance(node, ast.FormattedValue) and not isinstance(node.value, ast.Name):
        found.append("L7")
    if isinstance(node, ast.Compare) and any(isinstance(op, (ast.Is, ast.IsNot)) for op in node.ops):
        other = node.comparators[0]
        if not isinstance(other, ast.Constant) or not any(other.value is one for one in (None, True, False)):
            found.append("L20")
    return found


def is_plain(node, functions):
    """Whether a value of a file's top is plain: L3."""
    if isinstance(node, ast.Constant):
        return True
    if isinstance(node, ast.Name):
        return node.id in functions
    if isinstance(node, (ast.Tuple, ast.List)):
        return all(is_plain(part, functions) for part in node.elts)
    if isinstance(node, ast.Dict):
        return all(is_plain(part, functions) for part in node.keys + node.values)
    return False


def top_value_faults(tree):
    found = []
    functions = []
    for node in tree.body:
        if isinstance(node, ast.FunctionDef):
            functions.append(node.name)
        elif isinstance(node, ast.Assign):
            if not is_plain(node.value, functions):
                found.append((node.lineno, "L3"))
            within = [part for part in ast.walk(node.value) if isinstance(part, (ast.List, ast.Dict))]
            if [part for part in within if part is not node.value]:
                found.append((node.lineno, "L15"))
    return found


def local_faults(tree):
    """No parameter and no local is called like a class or an import of its file, or like a name of Python's own."""
    taken = set()
    for node in tree.body:
        if isinstance(node, ast.ImportFrom):
            taken.update(alias.asname or alias.name for alias in node.names)
        elif isinstance(node, ast.ClassDef):
            taken.add(node.name)
    found = []
    top = [node.targets[0] for node in tree.body if isinstance(node, ast.Assign)]
    for node in ast.walk(tree):
        names = []
        if isinstance(node, ast.arg):
            names = [node.arg]
        elif isinstance(node, ast.Name) and isinstance(node.ctx, ast.Store) and node not in top:
            names = [node.id]
        elif isinstance(node, ast.ExceptHandler) and node.name:
            names = [node.name]
        found.extend((node.lineno, "L15") for name in names if name in taken or hasattr(builtins, name))
    return found


def walked_places(tree):
    """The calls of zip, range, items and their like that are walked on the spot: L23."""
    fine = set()
    for node in ast.walk(tree):
        if isinstance(node, (ast.For, ast.comprehension)):
            fine.add(node.iter)
        if isinstance(node, ast.Call) and isinstance(node.func, ast.Name) and node.func.id in WALKERS:
            alone = node.func.id in ("min", "max")
            if node.args and (not alone or len(node.args) == 1):
                fine.update(node.args if node.func.id == "zip" else node.args[:1])
        joins = isinstance(node, ast.Call) and isinstance(node.func, ast.Attribute) and node.func.attr == "join"
        if joins and isinstance(node.func.value, ast.Constant):
            fine.update(node.args)
    return fine


def walk_faults(tree):
    fine = walked_places(tree)
    found = []
    for node in ast.walk(tree):
        if not isinstance(node, ast.Call) or node in fine:
            continue
        named = isinstance(node.func, ast.Name) and node.func.id in WALKED
        if named or isinstance(node.func, ast.Attribute) and node.func.attr in WALKED_METHODS:
            found.append((node.lineno, "L23"))
    for node in ast.walk(tree):
        if isinstance(node, ast.For):
            found.extend((node.lineno, "L23") for part in ast.walk(node.iter) if is_changed_in(part, node.body))
    return found


def is_changed_in(walked, body):
    """Whether what a loop walks, a name or an attribute, is changed in its body."""
    if not isinstance(walked, (ast.Name, ast.Attribute)):
        return False
    told = ast.unparse(walked)
    changing = {"append", "clear", "extend", "insert", "pop", "remove", "reverse", "setdefault", "update"}
    for statement in body:
        for node in ast.walk(statement):
            if isinstance(node, ast.Call) and isinstance(node.func, ast.Attribute) and node.func.attr in changing:
                if ast.unparse(node.func.value) == told:
                    return True
            if isinstance(node, ast.Subscript) and isinstance(node.ctx, ast.Store) and ast.unparse(node.value) == told:
                return True
    return False


def call_faults(node):
    """Keywords and what isinstance is asked: L22; a set: L24, held narrower than the rule."""
    found = []
    if isinstance(node.func, ast.Name) and node.func.id in BUILTINS:
        allowed = KEYWORDS.get(node.func.id, set())
        found.extend("L22" for one in node.keywords if one.arg not in allowed)
        if node.func.id in ("set", "frozenset"):
            found.append("L24")
    if isinstance(node.func, ast.Attribute) and node.func.attr in METHODS and node.keywords:
        found.append("L22")
    return found


def handed_faults(tree, methods):
    """Methods and functions of Python's own that are handed on instead of called: L22, L25; classes kept: L18."""
    called = {node.func for node in ast.walk(tree) if isinstance(node, ast.Call)}
    classes = {node.name for node in ast.walk(tree) if isinstance(node, ast.ClassDef)}
    bases = {part for node in ast.walk(tree) if isinstance(node, ast.ClassDef) for part in node.bases}
    asked = set()
    keys = set()
    for node in ast.walk(tree):
        if isinstance(node, ast.Call):
            keys.update(one.value for one in node.keywords if one.arg == "key")
            if isinstance(node.func, ast.Name) and node.func.id == "isinstance":
                asked.update(ast.walk(node.args[1]))
        if isinstance(node, ast.ExceptHandler) and node.type is not None:
            asked.update(ast.walk(node.type))
        if isinstance(node, ast.Raise) and (not isinstance(node.exc, ast.Call)):
            asked.add(node.exc)
    found = []
    for node in ast.walk(tree):
        if node in called or node in keys or node in asked or node in bases:
            continue
        if isinstance(node, ast.Attribute) and isinstance(node.ctx, ast.Load) and node.attr in methods:
            found.append((node.lineno, "L25"))
        if isinstance(node, ast.Name) and isinstance(node.ctx, ast.Load):
            if node.id in BUILTINS:
                found.append((node.lineno, "L22"))
            if node.id in classes:
                found.append((node.lineno, "L18"))
    return found


def other_faults(tree):
    found = []
    for node in ast.walk(tree):
        if isinstance(node, ast.Call):
            found.extend((node.lineno, rule) for rule in call_faults(node))
        if isinstance(node, (ast.Set, ast.SetComp)):
            found.append((node.lineno, "L24"))
        if isinstance(node, (ast.arg, ast.FunctionDef)):
            if (node.annotation if isinstance(node, ast.arg) else node.returns) is not None:
                found.append((node.lineno, "L21"))
        if isinstance(node, ast.Raise) and not isinstance(node.exc, ast.Call):
            found.append((node.lineno, "L19"))
        if isinstance(node, ast.BinOp) and isinstance(node.op, ast.Pow):
            told = node.right.value if isinstance(node.right, ast.Constant) else None
            if told is None or not 0 <= told <= 64:
                found.append((node.lineno, "L27"))
        if isinstance(node, ast.Attribute) and isinstance(node.ctx, ast.Store) and node.attr in NO_VALUES:
            found.append((node.lineno, "L26"))
        if isinstance(node, ast.FunctionDef):
            plain = all(is_plain(part, ()) for part in node.args.defaults)
            found.extend([] if plain else [(node.lineno, "L4")])
            if node.name == "__init__" and any(isinstance(part, ast.Return) for part in ast.walk(node)):
                found.append((node.lineno, "L28"))
    lambdas = [(node.lineno, ast.unparse(node.args)) for node in ast.walk(tree) if isinstance(node, ast.Lambda)]
    found.extend((line, "L13") for line, told in set(lambdas) if lambdas.count((line, told)) > 1)
    return found


def values_of(source):
    """The names of the values that a file's objects are given."""
    return [
        node.attr for node in ast.walk(ast.parse(source))
        if isinstance(node, ast.Attribute) and isinstance(node.ctx, ast.Store)
    ]


def node_faults(node, package, methods):
    if not isinstance(node, STATEMENTS + EXPRESSIONS):
        return ["L6" if isinstance(node, ast.stmt) else "L7"]
    found = name_faults(node) + statement_faults(node) + expression_faults(node)
    if isinstance(node, ast.FunctionDef):
        found.extend(function_faults(node))
    if isinstance(node, ast.ClassDef):
        found.extend(class_faults(node))
    if isinstance(node, ast.ImportFrom):
        found.extend(import_faults(node, package))
    if isinstance(node, ast.Call) and isinstance(node.func, ast.Attribute):
        if node.func.attr not in METHODS and node.func.attr not in methods:
            found.append("L25")
    return found


def methods_of(source):
    found = []
    for node in ast.walk(ast.parse(source)):
        if isinstance(node, ast.ClassDef):
            found.extend(part.name for part in node.body if isinstance(part, ast.FunctionDef))
    return found


def faults_of(source, package="stylehouse", methods=()):
    """The faults of a file's text: tuples (line, rule), by lines; methods are those of the package's own classes."""
    tree = ast.parse(source)
    found = signs_of(source) + top_of(tree) + top_value_faults(tree) + local_faults(tree) + walk_faults(tree)
    found.extend(handed_faults(tree, methods) + other_faults(tree))
    for node in ast.walk(tree):
        for rule in node_faults(node, package, methods):
            found.append((getattr(node, "lineno", 0), rule))
        if isinstance(node, (ast.FunctionDef, ast.For, ast.While, ast.If, ast.Try)):
            for part in node.body:
                if isinstance(part, ast.Expr) and not isinstance(part.value, ast.Call):
                    found.append((part.lineno, "L6"))
    return sorted(set(found))


def drawn_by(source):
    """The modules that a file's text imports from, with the names."""
    return [
        (node.module, alias.name)
        for node in ast.walk(ast.parse(source)) if isinstance(node, ast.ImportFrom) for alias in node.names
    ]
