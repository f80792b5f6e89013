"""Point 32, with points 27 to 31 over a whole tree, and point 3: where each box lies."""

import unittest
from fractions import Fraction
from random import Random

from helper import Layout, exact, grown, order_of, tuple_of
from stylehouse.plan import laid
from stylehouse.props import PROPS, start_of
from stylehouse.sheet import Sheet
from stylehouse.tree import Tree
from stylehouse.worth import worth_of
from test_deal import dealt_by_words
from test_flows import best_way

STARTS = {prop: start_of(prop) for prop in PROPS}


def counts_by_words(flow, widths, gap, room):
    if not widths:
        return []
    if flow == "stack":
        return [1] * len(widths)
    if flow == "row":
        return [len(widths)]
    if flow == "fair":
        return best_way(widths, gap, room)[0]
    counts = [1]
    line = widths[0]
    for width in widths[1:]:
        if line + gap + width <= room:
            counts[-1] += 1
            line += gap + width
        else:
            counts.append(1)
            line = width
    return counts


def laid_by_words(tree, worth, width, measure=None):
    layout = Layout(tree, worth, measure, counts_by_words, lambda items, room: dealt_by_words(items, room)[0])
    layout.lay_all(width)
    return layout


def worth_by(chance, tree):
    """Kept values of each box of a tree, made by chance."""
    def one(most=6):
        return Fraction(chance.randrange(0, most), chance.randrange(1, 4))

    def number(some):
        return ("number", some.numerator, some.denominator)

    worth = {}
    for box in order_of(tree):
        values = dict(STARTS)
        values["size"] = number(one())
        for prop in ("gap", "pad", "tall", "grow", "shrink"):
            if chance.random() < 0.4:
                values[prop] = number(one(4))
        for prop in ("wide", "least", "most"):
            if chance.random() < 0.3:
                some = one()
                values[prop] = chance.choice((number(some), ("part",) + tuple_of(some / 6)))
        values["flow"] = ("word", chance.choice(("stack", "row", "wrap", "fair")))
        values["spread"] = ("word", chance.choice(("left", "middle", "right", "apart")))
        values["stand"] = ("word", chance.choice(("top", "middle", "bottom", "full")))
        worth[box] = values
    return worth


def written(chance, size):
    """A tree by chance, with words in its boxes."""
    tree = grown(chance, size)
    for box in order_of(tree):
        tree.write(box, ["w" * chance.randrange(1, 6) for turn in range(chance.randrange(0, 5))])
    return tree


def fractions(some):
    return tuple((one, 1) if isinstance(one, int) else tuple_of(one) for one in some)


def number(top, bottom=1):
    return ("number", top, bottom)


class PlacesTest(unittest.TestCase):
    def test_a_root_alone(self):
        tree = Tree("house")
        self.assertEqual(laid(tree, {0: STARTS}, (7, 2)), {0: fractions((0, 0, Fraction(7, 2), 0))})
        tree.write(0, ["ab", "abc"])
        self.assertEqual(laid(tree, {0: STARTS}, (7, 2)), {0: fractions((0, 0, Fraction(7, 2), 2))})
        values = dict(STARTS, flow=("word", "row"), pad=number(2), size=number(3))
        self.assertEqual(laid(tree, {0: values}, (0, 1)), {0: fractions((0, 0, 0, 7))})

    def test_a_small_house(self):
        tree = Tree("house")
        tree.put(0, 0, "a")
        tree.put(0, 1, "b")
        tree.put(1, 0, "c")
        tree.put(1, 1, "d")
        tree.write(3, ["abcd"])
        tree.write(4, ["ab"])
        tree.write(2, ["abc", "a"])
        tree.write(1, ["not", "laid"])
        worth = {box: dict(STARTS) for box in range(5)}
        worth[0].update(flow=("word", "row"), gap=number(1), pad=number(1), spread=("word", "right"), stand=("word", "full"))
        worth[1].update(pad=number(1, 2))
        worth[2].update(size=number(1, 2), grow=number(1), most=number(6))
        worth[4].update(size=number(3))
        # Box 1 is 7 wide, box 2 grows from 3/2 to 6: 4 of the room of 18 are left.
        self.assertEqual(laid(tree, worth, (20, 1)), {
            0: fractions((0, 0, 20, 7)),
            1: fractions((5, 1, 7, 5)),
            2: fractions((13, 1, 6, 5)),
            3: fractions((Fraction(1, 2), Fraction(1, 2), 4, 1)),
            4: fractions((Fraction(1, 2), Fraction(3, 2), 6, 3)),
        })

    def test_by_chance(self):
        chance = Random(32)
        for turn in range(120):
            tree = written(chance, chance.randrange(1, 14))
            worth = worth_by(chance, tree)
            width = Fraction(chance.randrange(0, 60), chance.randrange(1, 4))
            with self.subTest(turn=turn):
                self.assertEqual(laid(tree, worth, tuple_of(width)), laid_by_words(tree, worth, width).places)

    def test_deep_trees(self):
        chance = Random(33)
        tree = Tree("house")
        for holder in range(12):
            tree.put(holder, 0, "a")
        tree.write(12, ["deep", "down"])
        for turn in range(20):
            worth = worth_by(chance, tree)
            self.assertEqual(laid(tree, worth, (50, 1)), laid_by_words(tree, worth, Fraction(50)).places)

    def test_a_window_of_nought(self):
        chance = Random(34)
        for turn in range(30):
            tree = written(chance, 8)
            worth = worth_by(chance, tree)
            told = laid(tree, worth, (0, 1))
            self.assertEqual(told, laid_by_words(tree, worth, Fraction(0)).places)
            self.assertEqual(told[0][:3], fractions((0, 0, 0)))

    def test_values_of_a_sheet(self):
        tree = Tree("house")
        for place in range(3):
            tree.put(0, place, "a")
        sheet = Sheet()
        every = (("", (("name", "a"),)),)
        sheet.add((0, (every,), (("wide", ("part", 1, 4), False), ("tall", ("number", 2, 1), False))))
        tree.dress(0, (("flow", ("word", "row"), False), ("spread", ("word", "apart"), False)))
        self.assertEqual(laid(tree, worth_of(tree, sheet), (16, 1)), {
            0: fractions((0, 0, 16, 2)), 1: fractions((0, 0, 4, 2)), 2: fractions((6, 0, 4, 2)), 3: fractions((12, 0, 4, 2)),
        })

    def test_nothing_handed_in_is_changed(self):
        chance = Random(35)
        tree = written(chance, 10)
        worth = worth_by(chance, tree)
        before = {box: dict(values) for box, values in worth.items()}
        words = [tree.words_of(box) for box in order_of(tree)]
        told = laid(tree, worth, (9, 1))
        same = dict(told)
        told.clear()
        self.assertEqual(laid(tree, worth, (9, 1)), same)
        self.assertEqual(worth, before)
        self.assertEqual([tree.words_of(box) for box in order_of(tree)], words)


class MeasureTest(unittest.TestCase):
    def test_box_by_box_in_the_trees_order(self):
        tree = Tree("house")
        tree.put(0, 0, "a")
        tree.put(0, 0, "b")
        tree.put(2, 0, "c")
        tree.put(2, 0, "d")
        for box, words in ((0, ["zero"]), (1, ["x", "y", "x"]), (2, ["two"]), (3, ["x"]), (4, ["four", "x"])):
            tree.write(box, words)
        worth = {box: dict(STARTS, size=("number",) + tuple_of(Fraction(box + 1, 2))) for box in range(5)}
        asked = []

        def measure(word, size):
            asked.append((word, size))
            return (4, 2)

        told = laid(tree, worth, (9, 1), measure)
        self.assertEqual(asked, [
            ("four", (5, 2)), ("x", (5, 2)), ("x", (2, 1)), ("x", (1, 1)), ("y", (1, 1)), ("x", (1, 1)),
        ])
        self.assertEqual(told[2][2:], fractions((2, 7)))

    def test_places_by_a_measure(self):
        chance = Random(36)
        for turn in range(30):
            tree = written(chance, 9)
            worth = worth_by(chance, tree)

            def measure(word, size):
                return (len(word) * size[0] * 2 + 6, size[1] * 4)

            told = laid(tree, worth, (21, 2), measure)
            self.assertEqual(told, laid_by_words(tree, worth, Fraction(21, 2), measure).places)


class PromiseTest(unittest.TestCase):
    def check(self, tree, worth, told, lines, own):
        for holder in order_of(tree):
            boxes = tree.boxes_of(holder)
            pad = exact(worth[holder]["pad"][1:])
            gap = exact(worth[holder]["gap"][1:])
            width = exact(told[holder][2])
            edge = min(pad, width / 2)
            places = [[exact(side) for side in told[box]] for box in boxes]
            start = 0
            for count in lines[holder] if boxes else []:
                line = places[start:start + count]
                for one, other in zip(line, line[1:]):
                    self.assertLessEqual(one[0] + one[2], other[0])
                span = sum(one[2] for one in line) + gap * (count - 1)
                for one in line:
                    self.assertGreaterEqual(one[1], pad)
                    self.assertLessEqual(one[1] + one[3], own[holder] - pad)
                    self.assertGreaterEqual(one[0], edge)
                    if span <= width - 2 * edge:
                        self.assertLessEqual(one[0] + one[2], width - edge)
                for one in line:
                    for other in places[start + count:]:
                        self.assertLessEqual(one[1] + one[3], other[1])
                start += count

    def test_no_box_over_its_neighbour(self):
        chance = Random(37)
        for turn in range(80):
            tree = written(chance, 12)
            worth = worth_by(chance, tree)
            width = Fraction(chance.randrange(0, 60), chance.randrange(1, 4))
            layout = laid_by_words(tree, worth, width)
            self.check(tree, worth, laid(tree, worth, tuple_of(width)), layout.lines, layout.own)


if __name__ == "__main__":
    unittest.main()
