"""What several test files need: trees grown by chance, and fractions turned into Python's own and back."""

from fractions import Fraction

from stylehouse.tree import Tree

NAMES = ("a", "b", "card", "row", "house")
MARKS = ("big", "off", "x", "y")


def exact(told):
    return Fraction(told[0], told[1])


def tuple_of(one):
    one = Fraction(one)
    return (one.numerator, one.denominator)


def order_of(tree, box=0):
    """The tree's order, told by itself: a box, then each of its row with all beneath it."""
    found = [box]
    for one in tree.boxes_of(box):
        found.extend(order_of(tree, one))
    return found


def depth_in(tree, box):
    return 0 if box == 0 else 1 + depth_in(tree, tree.holder_of(box))


def grown(chance, size, deep=12):
    """A tree of some boxes, put in and marked by chance."""
    tree = Tree("house")
    while len(order_of(tree)) < size:
        holder = chance.choice([box for box in order_of(tree) if depth_in(tree, box) < deep])
        tree.put(holder, chance.randrange(len(tree.boxes_of(holder)) + 1), chance.choice(NAMES))
    for box in order_of(tree):
        for mark in MARKS:
            if chance.random() < 0.3:
                tree.mark(box, mark)
    return tree


def trait_by(chance, deep=2):
    """A trait made by chance."""
    kind = chance.choice(("any", "name", "mark", "front", "back", "not", "one"))
    if kind in ("not", "one") and deep == 0:
        kind = "mark"
    if kind == "any":
        return ("any",)
    if kind == "name":
        return ("name", chance.choice(NAMES))
    if kind == "mark":
        return ("mark", chance.choice(MARKS))
    if kind == "not":
        return ("not", trait_by(chance, deep - 1))
    if kind == "one":
        return ("one", tuple(trait_by(chance, deep - 1) for turn in range(chance.randrange(4))))
    return (kind, chance.randrange(5), chance.randrange(4))


def pattern_by(chance, most=4):
    """A pattern made by chance."""
    steps = []
    for place in range(chance.randrange(1, most + 1)):
        join = chance.choice((" ", ">", "+", "~")) if place else ""
        steps.append((join, tuple(trait_by(chance) for turn in range(chance.randrange(3)))))
    return tuple(steps)


def held_between(one, least, most):
    one = max(one, least)
    return one if most is None else min(one, max(least, most))


def number_in(value, room, other):
    """A kept value as a number in a room, the other thing where it is a word."""
    if value[0] == "word":
        return other
    return Fraction(value[1], value[2]) * (room if value[0] == "part" else 1)


class Layout:
    """Points 27 to 32 once more, by Python's own fractions and by recursion; breaking and dealing are handed in."""

    def __init__(self, tree, worth, measure, counts, deal):
        self.tree = tree
        self.worth = worth
        self.measure = measure
        self.counts = counts
        self.deal = deal
        self.places = {}
        self.lines = {}
        self.own = {}
        self.spans = {}
        for box in order_of(tree):
            if not tree.boxes_of(box):
                self.spans[box] = [self.span(box, word) for word in tree.words_of(box)]

    def number(self, box, prop, room=None, other=None):
        return number_in(self.worth[box][prop], room, other)

    def span(self, box, word):
        size = self.number(box, "size")
        return len(word) * size if self.measure is None else exact(self.measure(word, tuple_of(size)))

    def natural(self, box):
        value = self.worth[box]
        boxes = self.tree.boxes_of(box)
        widths = [self.natural(one) for one in boxes] if boxes else self.spans[box]
        if value["flow"][1] == "stack":
            broad = max(widths, default=Fraction(0))
        else:
            broad = sum(widths) + self.number(box, "gap") * max(0, len(widths) - 1)
        broad += 2 * self.number(box, "pad")
        if value["wide"][0] == "number":
            broad = self.number(box, "wide")
        least = self.number(box, "least") if value["least"][0] == "number" else 0
        most = self.number(box, "most") if value["most"][0] == "number" else None
        return held_between(broad, least, most)

    def items(self, box, room):
        boxes = self.tree.boxes_of(box)
        if not boxes:
            return [(width, Fraction(0), None, Fraction(0), Fraction(0)) for width in self.spans[box]]
        return [
            (
                self.number(one, "wide", room, self.natural(one)), self.number(one, "least", room),
                self.number(one, "most", room), self.number(one, "grow"), self.number(one, "shrink"),
            )
            for one in boxes
        ]

    def lay(self, box, width):
        """Lays what is beneath a box of some width; its own height."""
        value = self.worth[box]
        pad = self.number(box, "pad")
        gap = self.number(box, "gap")
        edge = min(pad, width / 2)
        room = width - 2 * edge
        items = self.items(box, room)
        begins = [held_between(one[0], one[1], one[2]) for one in items]
        counts = self.counts(value["flow"][1], begins, gap, room)
        self.lines[box] = counts
        boxes = self.tree.boxes_of(box)
        y = pad
        place = 0
        for turn, count in enumerate(counts):
            widths = self.deal(items[place:place + count], room - gap * (count - 1))
            if boxes:
                heights = [self.lay(one, broad) for one, broad in zip(boxes[place:place + count], widths)]
            else:
                heights = [self.number(box, "size")] * count
            left = max(Fraction(0), room - sum(widths) - gap * (count - 1))
            x = edge + {"left": 0, "apart": 0, "middle": left / 2, "right": left}[value["spread"][1]]
            between = gap + (left / (count - 1) if value["spread"][1] == "apart" and count > 1 else 0)
            high = max(heights)
            for turn_in, (broad, height) in enumerate(zip(widths, heights)):
                stand = value["stand"][1]
                down = {"top": 0, "full": 0, "middle": (high - height) / 2, "bottom": high - height}[stand]
                if boxes:
                    tall = high if stand == "full" else height
                    self.places[boxes[place + turn_in]] = tuple(tuple_of(one) for one in (x, y + down, broad, tall))
                x += broad + between
            y += high + (gap if turn < len(counts) - 1 else 0)
            place += count
        self.own[box] = max(y + pad, self.number(box, "tall"))
        return self.own[box]

    def lay_all(self, width):
        height = self.lay(0, width)
        self.places[0] = ((0, 1), (0, 1), tuple_of(width), tuple_of(height))
        return self.places
