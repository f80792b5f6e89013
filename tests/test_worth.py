"""Points 19 to 21, with point 2: told values, rings and kept values."""

import unittest
from fractions import Fraction
from math import gcd
from random import Random

from helper import grown, order_of
from stylehouse.claims import winner_of
from stylehouse.props import PROPS, start_of
from stylehouse.sheet import Sheet
from stylehouse.tree import Tree
from stylehouse.worth import kept_of, ring_of, told_of, worth_of

NUMBERS = PROPS[1:10]
ANY = (("", (("any",),)),)
STARTS = {prop: start_of(prop) for prop in PROPS}
GREAT = 10 ** 30 - 1


def telling(**some):
    """Told values: the starts, but those that are handed in."""
    told = {prop: ("start",) for prop in PROPS}
    told.update(some)
    return told


def keeping(**some):
    kept = dict(STARTS)
    kept.update(some)
    return kept


def number(top, bottom=1):
    return ("number", top, bottom)


def ring_by_walking(told):
    found = []
    for prop in PROPS:
        seen = []
        at = prop
        while told[at][0] == "of" and at not in seen:
            seen.append(at)
            at = told[at][1]
        # Where the walk came to something it had seen, all from there on stand in a ring.
        if at in seen and prop in seen[seen.index(at):]:
            found.append(prop)
    return found


def kept_value(told, above, prop):
    """What point 21 says, once more."""
    value = told[prop]
    if prop in ring_by_walking(told) or value == ("start",):
        return STARTS[prop]
    if value == ("hand",):
        return above[prop]
    if value[0] == "word":
        return value
    if value[0] in ("number", "part"):
        exact = Fraction(value[1], value[2])
        return (value[0], exact.numerator, exact.denominator)
    base = above[prop] if value[0] == "times" else kept_value(told, above, value[1])
    if base[0] != "number":
        return STARTS[prop]
    exact = Fraction(base[1], base[2]) * Fraction(value[-2], value[-1])
    return ("number", exact.numerator, exact.denominator)


def value_by(chance, prop):
    sorts = [("hand",), ("start",)]
    if prop in NUMBERS:
        top = chance.randrange(7)
        bottom = chance.randrange(1, 7)
        sorts.extend([("number", top, bottom), ("times", top, bottom)])
        sorts.extend([("of", chance.choice(NUMBERS), top, bottom)] * 3)
    if prop in ("wide", "least", "most"):
        sorts.append(("part", chance.randrange(7), chance.randrange(1, 7)))
    if prop not in NUMBERS or prop in ("wide", "most"):
        sorts.append(STARTS[prop])
    if prop == "ink":
        sorts.append(("word", "red"))
    if prop == "flow":
        sorts.append(("word", chance.choice(("row", "wrap", "fair"))))
    return chance.choice(sorts)


class ToldTest(unittest.TestCase):
    def test_without_claims(self):
        tree = Tree("house")
        tree.put(0, 0, "a")
        due = {prop: ("hand",) if prop in ("ink", "size") else ("start",) for prop in PROPS}
        for box in (0, 1):
            self.assertEqual(told_of(tree, Sheet(), box), due)

    def test_each_property_with_a_claim(self):
        for prop in PROPS:
            for value in (("hand",), ("start",), STARTS[prop]):
                tree = Tree("house")
                sheet = Sheet()
                sheet.add((1, (ANY,), ((prop, value, False),)))
                due = {one: ("hand",) if one in ("ink", "size") else ("start",) for one in PROPS}
                due[prop] = value
                self.assertEqual(told_of(tree, sheet, 0), due)

    def test_just_what_the_winner_says(self):
        tree = Tree("house")
        sheet = Sheet()
        sheet.add((1, (ANY,), (("gap", ("number", 2, 4), True), ("gap", ("number", 3, 1), False))))
        sheet.add((5, (ANY,), (("gap", ("number", 5, 1), False), ("pad", ("of", "gap", 6, 4), False))))
        tree.dress(0, (("pad", ("times", 4, 2), False),))
        told = told_of(tree, sheet, 0)
        self.assertEqual(told["gap"], ("number", 2, 4))
        self.assertEqual(told["pad"], ("times", 4, 2))

    def test_winners_by_chance(self):
        chance = Random(19)
        tree = grown(chance, 15)
        sheet = Sheet()
        for turn in range(20):
            prop = chance.choice(PROPS)
            pattern = (("", (("mark", chance.choice(("big", "off", "x", "y"))),)),)
            sheet.add((chance.randrange(10), (pattern,), ((prop, value_by(chance, prop), chance.random() < 0.5),)))
        for box in order_of(tree):
            told = told_of(tree, sheet, box)
            self.assertEqual(sorted(told), sorted(PROPS))
            for prop in PROPS:
                winner = winner_of(tree, sheet, box, prop)
                due = ("hand",) if prop in ("ink", "size") else ("start",)
                self.assertEqual(told[prop], due if winner is None else winner[2])

    def test_the_dict_told_is_the_askers_own(self):
        tree = Tree("house")
        sheet = Sheet()
        told_of(tree, sheet, 0).clear()
        self.assertEqual(sorted(told_of(tree, sheet, 0)), sorted(PROPS))


class RingTest(unittest.TestCase):
    def test_none(self):
        self.assertEqual(ring_of(telling()), [])
        self.assertEqual(ring_of(telling(gap=("of", "pad", 1, 1))), [])
        self.assertEqual(ring_of(telling(gap=("of", "pad", 1, 1), pad=("of", "size", 1, 1), size=("hand",))), [])

    def test_of_one(self):
        for prop in NUMBERS:
            self.assertEqual(ring_of(telling(**{prop: ("of", prop, 1, 2)})), [prop])

    def test_of_two(self):
        told = telling(tall=("of", "size", 1, 1), size=("of", "tall", 1, 1))
        self.assertEqual(ring_of(told), ["size", "tall"])

    def test_of_all(self):
        told = telling()
        for place, prop in enumerate(NUMBERS):
            told[prop] = ("of", NUMBERS[(place + 4) % len(NUMBERS)], 1, 1)
        self.assertEqual(ring_of(told), list(NUMBERS))

    def test_those_that_lead_into_one(self):
        told = telling(
            gap=("of", "pad", 1, 1), pad=("of", "tall", 1, 1), tall=("of", "pad", 1, 1), size=("of", "gap", 1, 1),
            wide=("of", "wide", 1, 1), least=("of", "wide", 1, 1),
        )
        self.assertEqual(ring_of(told), ["wide", "pad", "tall"])

    def test_two_rings(self):
        told = telling(
            size=("of", "wide", 1, 1), wide=("of", "size", 1, 1), most=("of", "grow", 1, 1), grow=("of", "gap", 1, 1),
            gap=("of", "most", 1, 1),
        )
        self.assertEqual(ring_of(told), ["size", "wide", "most", "grow", "gap"])

    def test_by_chance(self):
        chance = Random(20)
        for turn in range(400):
            told = {prop: value_by(chance, prop) for prop in PROPS}
            same = dict(told)
            self.assertEqual(ring_of(told), ring_by_walking(told))
            self.assertEqual(told, same)


class KeptTest(unittest.TestCase):
    def kept(self, told, above, prop, due):
        with self.subTest(told=told[prop], prop=prop):
            self.assertEqual(kept_of(told, above)[prop], due)

    def test_the_starts(self):
        self.assertEqual(kept_of(telling(), None), STARTS)
        self.assertEqual(kept_of({prop: ("hand",) for prop in PROPS}, None), STARTS)
        self.assertEqual(kept_of(telling(), keeping(ink=("word", "red"), gap=number(3))), STARTS)

    def test_just_what_is_told(self):
        self.kept(telling(gap=number(3, 4)), None, "gap", number(3, 4))
        self.kept(telling(wide=("part", 2, 3)), None, "wide", ("part", 2, 3))
        self.kept(telling(ink=("word", "red")), None, "ink", ("word", "red"))
        self.kept(telling(flow=("word", "fair")), None, "flow", ("word", "fair"))
        self.kept(telling(most=("word", "none")), keeping(most=number(1)), "most", ("word", "none"))

    def test_lowest_terms(self):
        self.kept(telling(gap=number(6, 4)), None, "gap", number(3, 2))
        self.kept(telling(gap=number(0, 7)), None, "gap", number(0, 1))
        self.kept(telling(wide=("part", 4, 2)), None, "wide", ("part", 2, 1))
        self.kept(telling(least=("part", 0, 9)), None, "least", ("part", 0, 1))
        self.kept(telling(gap=number(GREAT, GREAT)), None, "gap", number(1))
        self.kept(telling(gap=("times", 4, 6)), keeping(gap=number(3, 2)), "gap", number(1))
        self.kept(telling(gap=("of", "size", 2, 4)), None, "gap", number(1, 2))

    def test_hand(self):
        above = keeping(ink=("word", "red"), wide=("part", 1, 3), gap=number(5, 2), flow=("word", "row"))
        for prop in PROPS:
            self.kept(telling(**{prop: ("hand",)}), above, prop, above[prop])
            self.kept(telling(**{prop: ("hand",)}), None, prop, STARTS[prop])

    def test_times(self):
        for prop in NUMBERS:
            self.kept(telling(**{prop: ("times", 2, 3)}), keeping(**{prop: number(5, 7)}), prop, number(10, 21))
            self.kept(telling(**{prop: ("times", 0, 3)}), keeping(**{prop: number(5, 7)}), prop, number(0))
        for value in (("part", 1, 2), ("word", "auto")):
            self.kept(telling(wide=("times", 2, 3)), keeping(wide=value), "wide", ("word", "auto"))
        self.kept(telling(least=("times", 2, 3)), keeping(least=("part", 1, 2)), "least", number(0))
        self.kept(telling(most=("times", 2, 3)), keeping(most=("word", "none")), "most", ("word", "none"))
        self.kept(telling(most=("times", 2, 3)), keeping(most=("part", 1, 2)), "most", ("word", "none"))

    def test_times_of_the_root(self):
        self.kept(telling(size=("times", 3, 2)), None, "size", number(3, 2))
        self.kept(telling(shrink=("times", 3, 2)), None, "shrink", number(3, 2))
        self.kept(telling(gap=("times", 3, 2)), None, "gap", number(0))
        self.kept(telling(wide=("times", 3, 2)), None, "wide", ("word", "auto"))

    def test_of(self):
        self.kept(telling(gap=("of", "pad", 2, 3), pad=number(9, 4)), None, "gap", number(3, 2))
        self.kept(telling(pad=("of", "gap", 2, 3), gap=number(9, 4)), None, "pad", number(3, 2))
        self.kept(telling(gap=("of", "wide", 2, 3), wide=("part", 1, 2)), None, "gap", number(0))
        self.kept(telling(shrink=("of", "wide", 2, 3)), None, "shrink", number(1))
        self.kept(telling(wide=("of", "most", 2, 3)), None, "wide", ("word", "auto"))
        self.kept(telling(most=("of", "least", 2, 3), least=("part", 1, 2)), None, "most", ("word", "none"))
        self.kept(telling(wide=("of", "least", 2, 3), least=number(1, 2)), None, "wide", number(1, 3))
        self.kept(telling(wide=("of", "size", 2, 1), size=("hand",)), keeping(size=number(5, 3)), "wide", number(10, 3))

    def test_of_is_of_the_kept_value_of_the_same_box(self):
        told = telling(gap=("of", "pad", 1, 2), pad=("of", "tall", 1, 3), tall=("times", 1, 5))
        above = keeping(tall=number(30), pad=number(77), gap=number(88))
        self.assertEqual(kept_of(told, above), keeping(tall=number(6), pad=number(2), gap=number(1)))

    def test_rings(self):
        told = telling(size=("of", "size", 5, 1), gap=("of", "size", 5, 1))
        self.assertEqual(kept_of(told, keeping(size=number(9))), keeping(gap=number(5)))
        told = telling(wide=("of", "shrink", 5, 1), shrink=("of", "wide", 5, 1), pad=("of", "wide", 3, 1), tall=("of", "shrink", 3, 1))
        self.assertEqual(kept_of(told, None), keeping(tall=number(3)))

    def test_nothing_that_goes_in_is_changed(self):
        told = telling(gap=("of", "pad", 1, 2), pad=number(3))
        above = keeping(size=number(4))
        before = (dict(told), dict(above))
        kept = kept_of(told, above)
        kept["size"] = "other"
        self.assertEqual((told, above), before)
        self.assertEqual(start_of("size"), number(1))

    def test_by_chance(self):
        chance = Random(21)
        above = dict(STARTS)
        for turn in range(400):
            told = {prop: value_by(chance, prop) for prop in PROPS}
            kept = kept_of(told, above)
            self.assertEqual(kept, {prop: kept_value(told, above, prop) for prop in PROPS})
            for value in kept.values():
                if value[0] != "word":
                    self.assertEqual(gcd(value[1], value[2]), 1)
            above = kept if turn % 5 else dict(STARTS)


class WorthTest(unittest.TestCase):
    def test_handed_down_through_several_boxes(self):
        tree = Tree("house")
        for holder in range(6):
            tree.put(holder, 0, "a")
        sheet = Sheet()
        tree.dress(0, (("ink", ("word", "red"), False), ("size", number(3), False)))
        tree.dress(2, (("size", ("times", 1, 2), False),))
        tree.dress(4, (("ink", ("start",), False), ("size", ("times", 2, 5), False)))
        worth = worth_of(tree, sheet)
        self.assertEqual([worth[box]["ink"][1] for box in range(7)], ["red"] * 4 + ["black"] * 3)
        sizes = [worth[box]["size"] for box in range(7)]
        self.assertEqual(sizes, [number(3)] * 2 + [number(3, 2)] * 2 + [number(3, 5)] * 3)

    def test_long_numbers(self):
        tree = Tree("house")
        for holder in range(12):
            tree.put(holder, 0, "a")
        sheet = Sheet()
        sheet.add((0, (ANY,), (("size", ("times", GREAT, GREAT - 1), False), ("gap", ("of", "size", 7, GREAT), False))))
        worth = worth_of(tree, sheet)
        self.assertEqual(worth[12]["size"], number(GREAT ** 13, (GREAT - 1) ** 13))
        exact = Fraction(GREAT ** 13, (GREAT - 1) ** 13) * Fraction(7, GREAT)
        self.assertEqual(worth[12]["gap"], number(exact.numerator, exact.denominator))

    def test_by_chance(self):
        chance = Random(22)
        for turn in range(10):
            tree = grown(chance, 25)
            sheet = Sheet()
            for again in range(25):
                prop = chance.choice(PROPS)
                pattern = (("", (("mark", chance.choice(("big", "off", "x", "y"))),)),)
                sheet.add((chance.randrange(10), (pattern,), ((prop, value_by(chance, prop), False),)))
            worth = worth_of(tree, sheet)
            self.assertEqual(sorted(worth), sorted(order_of(tree)))
            for box in order_of(tree):
                above = STARTS if box == 0 else worth[tree.holder_of(box)]
                told = told_of(tree, sheet, box)
                self.assertEqual(worth[box], {prop: kept_value(told, above, prop) for prop in PROPS})

    def test_the_dicts_told_are_the_askers_own(self):
        tree = Tree("house")
        tree.put(0, 0, "a")
        sheet = Sheet()
        worth = worth_of(tree, sheet)
        worth[0].clear()
        self.assertEqual(worth[1], STARTS)
        self.assertEqual(worth_of(tree, sheet), {0: STARTS, 1: STARTS})


if __name__ == "__main__":
    unittest.main()
