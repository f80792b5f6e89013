"""What several test files need: trees grown by chance, and fractions turned into Python's own and back."""

from fractions import Fraction

from stylehouse.tree import Tree

NAMES = ("a", "b", "card", "row", "house")
MARKS = ("big", "off", "x", "y")


def exact(told):
    return Fraction(told[0], told[1])


def tuple_of(one):
    one = Fraction(one)
    return (one.numerator, one.denominator)


def order_of(tree, box=0):
    """The tree's order, told by itself: a box, then each of its row with all beneath it."""
    found = [box]
    for one in tree.boxes_of(box):
        found.extend(order_of(tree, one))
    return found


def depth_in(tree, box):
    return 0 if box == 0 else 1 + depth_in(tree, tree.holder_of(box))


def grown(chance, size, deep=12):
    """A tree of some boxes, put in and marked by chance."""
    tree = Tree("house")
    while len(order_of(tree)) < size:
        holder = chance.choice([box for box in order_of(tree) if depth_in(tree, box) < deep])
        tree.put(holder, chance.randrange(len(tree.boxes_of(holder)) + 1), chance.choice(NAMES))
    for box in order_of(tree):
        for mark in MARKS:
            if chance.random() < 0.3:
                tree.mark(box, mark)
    return tree


def trait_by(chance, deep=2):
    """A trait made by chance."""
    kind = chance.choice(("any", "name", "mark", "front", "back", "not", "one"))
    if kind in ("not", "one") and deep == 0:
        kind = "mark"
    if kind == "any":
        return ("any",)
    if kind == "name":
        return ("name", chance.choice(NAMES))
    if kind == "mark":
        return ("mark", chance.choice(MARKS))
    if kind == "not":
        return ("not", trait_by(chance, deep - 1))
    if kind == "one":
        return ("one", tuple(trait_by(chance, deep - 1) for turn in range(chance.randrange(4))))
    return (kind, chance.randrange(5), chance.randrange(4))


def pattern_by(chance, most=4):
    """A pattern made by chance."""
    steps = []
    for place in range(chance.randrange(1, most + 1)):
        join = chance.choice((" ", ">", "+", "~")) if place else ""
        steps.append((join, tuple(trait_by(chance) for turn in range(chance.randrange(3)))))
    return tuple(steps)
