"""Looks for code outside the part of Python that the package keeps to.

It sees what can be seen of one file by its form: most of L2 to L8, L10, L12, L14, L16, L17, L19, L20, L25, L27.
"""

import ast
import builtins
import re

STATEMENTS = (
    ast.Module, ast.FunctionDef, ast.ClassDef, ast.ImportFrom, ast.arguments, ast.arg, ast.alias, ast.keyword,
    ast.Assign, ast.AugAssign, ast.If, ast.While, ast.For, ast.Return, ast.Break, ast.Continue, ast.Pass, ast.Raise,
    ast.Try, ast.ExceptHandler, ast.Expr,
)
EXPRESSIONS = (
    ast.Constant, ast.List, ast.Tuple, ast.Dict, ast.Set, ast.BinOp, ast.UnaryOp, ast.BoolOp, ast.Compare, ast.IfExp,
    ast.Call, ast.Attribute, ast.Subscript, ast.Slice, ast.ListComp, ast.comprehension, ast.JoinedStr,
    ast.FormattedValue, ast.Lambda, ast.Name, ast.expr_context, ast.operator, ast.unaryop, ast.boolop, ast.cmpop,
)
BUILTINS = set(
    "len range enumerate zip min max sum abs sorted reversed int str bool list tuple dict set frozenset isinstance ord "
    "repr any all divmod Exception ValueError TypeError KeyError IndexError LookupError ZeroDivisionError "
    "ArithmeticError OverflowError RuntimeError NotImplementedError AttributeError StopIteration".split()
)
METHODS = set(
    "append clear copy count endswith extend find get index insert isalnum isalpha isdigit islower isspace isupper "
    "items join keys ljust lower lstrip partition pop remove replace reverse rfind rjust rpartition rsplit rstrip "
    "setdefault split splitlines startswith strip update upper values zfill bit_length".split()
)
UNDERSCORED = set("__init__ __eq__ __repr__ __str__ __len__".split())
WORDS = re.compile(
    r"\b(type|typing|typing_extensions|enum|Enum|IntEnum|StrEnum|Flag|IntFlag|Generic|Protocol|ABC|ABCMeta|namedtuple"
    r"|NamedTuple|TypedDict|TYPE_CHECKING|abstractmethod)\b|dataclass|overload|contextmanager"
)
UNUSED = set("register mro elements open input version_info with_traceback add_note format format_map".split())


def signs_of(source):
    found = []
    for number, line in enumerate(source.split("\n"), start=1):
        if len(line) > 120:
            found.append((number, "L10"))
        if any(not " " <= sign <= "~" for sign in line):
            found.append((number, "L14"))
        if WORDS.search(line):
            found.append((number, "L17"))
    if len(source.splitlines()) > 400:
        found.append((401, "L10"))
    return found


def top_of(tree):
    found = []
    bound = []
    for place, node in enumerate(tree.body):
        if isinstance(node, ast.Expr):
            if place != 0 or not isinstance(node.value, ast.Constant):
                found.append((node.lineno, "L3"))
        elif isinstance(node, (ast.FunctionDef, ast.ClassDef)):
            bound.append(node.name)
        elif isinstance(node, ast.ImportFrom):
            bound.extend(alias.asname or alias.name for alias in node.names)
        elif isinstance(node, ast.Assign) and isinstance(node.targets[0], ast.Name):
            bound.append(node.targets[0].id)
        else:
            found.append((node.lineno, "L3"))
    if len(bound) != len(set(bound)):
        found.append((1, "L15"))
    return found


def names_of(node):
    if isinstance(node, ast.Name):
        return [node.id]
    if isinstance(node, ast.arg):
        return [node.arg]
    if isinstance(node, (ast.FunctionDef, ast.ClassDef)):
        return [node.name]
    if isinstance(node, ast.Attribute):
        return [node.attr]
    return []


def name_faults(node):
    found = []
    for name in names_of(node):
        if name.startswith("_") and name not in UNDERSCORED:
            found.append("L12")
        if name in UNUSED:
            found.append("L17")
    if isinstance(node, ast.Name):
        foreign = hasattr(builtins, node.id) and node.id not in BUILTINS
        shadowed = node.id in BUILTINS and not isinstance(node.ctx, ast.Load)
        if foreign or shadowed:
            found.append("L8")
    if isinstance(node, ast.arg) and hasattr(builtins, node.arg):
        found.append("L15")
    return found


def function_faults(node):
    found = []
    if node.end_lineno - node.lineno + 1 > 40:
        found.append("L10")
    told = node.args
    if told.vararg or told.kwarg or told.kwonlyargs or told.posonlyargs or node.decorator_list:
        found.append("L4")
    return found


def class_faults(node):
    found = []
    if len(node.bases) > 1 or node.keywords or node.decorator_list:
        found.append("L5")
    if any(not isinstance(part, (ast.FunctionDef, ast.Pass)) for part in node.body):
        found.append("L5")
    return found


def import_faults(node, package):
    inside = node.module is not None and node.module.startswith(package + ".")
    starred = any(alias.name == "*" for alias in node.names)
    return ["L2"] if node.level or not inside or starred else []


def statement_faults(node):
    if isinstance(node, ast.Assign):
        plain = len(node.targets) == 1 and not isinstance(node.targets[0], (ast.Tuple, ast.List))
        return [] if plain else ["L6"]
    if isinstance(node, (ast.For, ast.While)):
        return ["L6"] if node.orelse else []
    if isinstance(node, ast.Try):
        return ["L6"] if node.finalbody else []
    if isinstance(node, ast.ExceptHandler):
        names = [part.id for part in ast.walk(node.type) if isinstance(part, ast.Name)] if node.type else []
        return [] if names and "Exception" not in names and "TypeError" not in names else ["L19"]
    return []


def expression_faults(node):
    found = []
    if isinstance(node, ast.Constant):
        if isinstance(node.value, (float, bytes, complex)) or node.value is Ellipsis:
            found.append("L7")
        if isinstance(node.value, str) and "%" in node.value:
            found.append("L27")
    if isinstance(node, (ast.Div, ast.MatMult)):
        found.append("L7")
    if isinstance(node, ast.ListComp) and len(node.generators) != 1:
        found.append("L7")
    if isinstance(node, ast.comprehension) and len(node.ifs) > 1:
        found.append("L7")
    if isinstance(node, ast.FormattedValue) and not isinstance(node.value, ast.Name):
        found.append("L7")
    if isinstance(node, ast.Compare) and any(isinstance(op, (ast.Is, ast.IsNot)) for op in node.ops):
        other = node.comparators[0]
        if not isinstance(other, ast.Constant) or not any(other.value is one for one in (None, True, False)):
            found.append("L20")
    return found


def node_faults(node, package, methods):
    if not isinstance(node, STATEMENTS + EXPRESSIONS):
        return ["L6" if isinstance(node, ast.stmt) else "L7"]
    found = name_faults(node) + statement_faults(node) + expression_faults(node)
    if isinstance(node, ast.FunctionDef):
        found.extend(function_faults(node))
    if isinstance(node, ast.ClassDef):
        found.extend(class_faults(node))
    if isinstance(node, ast.ImportFrom):
        found.extend(import_faults(node, package))
    if isinstance(node, ast.Call) and isinstance(node.func, ast.Attribute):
        if node.func.attr not in METHODS and node.func.attr not in methods:
            found.append("L25")
    return found


def methods_of(source):
    found = []
    for node in ast.walk(ast.parse(source)):
        if isinstance(node, ast.ClassDef):
            found.extend(part.name for part in node.body if isinstance(part, ast.FunctionDef))
    return found


def faults_of(source, package="stylehouse", methods=()):
    """The faults of a file's text: tuples (line, rule), by lines; methods are those of the package's own classes."""
    tree = ast.parse(source)
    found = signs_of(source) + top_of(tree)
    for node in ast.walk(tree):
        for rule in node_faults(node, package, methods):
            found.append((getattr(node, "lineno", 0), rule))
        if isinstance(node, (ast.FunctionDef, ast.For, ast.While, ast.If, ast.Try)):
            for part in node.body:
                if isinstance(part, ast.Expr) and not isinstance(part.value, ast.Call):
                    found.append((part.lineno, "L6"))
    return sorted(set(found))


def drawn_by(source):
    """The modules that a file's text imports from, with the names."""
    return [
        (node.module, alias.name)
        for node in ast.walk(ast.parse(source)) if isinstance(node, ast.ImportFrom) for alias in node.names
    ]
