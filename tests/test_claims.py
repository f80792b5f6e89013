"""Point 18: claims on a property of a box, the strongest first."""

import unittest
from functools import cmp_to_key
from itertools import permutations
from random import Random

from helper import grown, order_of, pattern_by
from stylehouse.claims import claims_of, winner_of
from stylehouse.patterns import fits, weight_of
from stylehouse.props import PROPS
from stylehouse.sheet import Sheet
from stylehouse.tree import Tree

ANY = (("", (("any",),)),)
NAMED = (("", (("name", "a"),)),)
MARKED = (("", (("mark", "x"),)),)
BOTH = (("", (("name", "a"), ("mark", "x"))),)
OTHER = (("", (("name", "other"), ("mark", "x"), ("mark", "y"))),)


def value(number):
    return ("number", number, 1)


def row(number, first=False, prop="size"):
    return (prop, value(number), first)


def one_box():
    """A root with box 1, called a, marked x and y."""
    tree = Tree("house")
    tree.put(0, 0, "a")
    tree.mark(1, "x")
    tree.mark(1, "y")
    return tree


def stronger(one, other):
    """Below nought where the one claim, (first, rule, layer, weight, place), is stronger, step by step."""
    if one[0] != other[0]:
        return -1 if one[0] else 1
    if (one[1] == -1) != (other[1] == -1):
        return -1 if one[1] == -1 else 1
    if one[1] != -1 and one[2] != other[2]:
        return -1 if (one[2] < other[2]) == one[0] else 1
    if one[1] != -1 and one[3] != other[3]:
        marks = one[3][0] - other[3][0]
        names = one[3][1] - other[3][1]
        return -1 if marks > 0 or marks == 0 and names > 0 else 1
    if one[1] != other[1]:
        return -1 if one[1] > other[1] else 1
    return -1 if one[4] > other[4] else 1


def all_claims(tree, sheet, box, prop):
    """The claims, reckoned once more from the words of point 18."""
    found = []
    for place, (name, told, first) in enumerate(tree.rows_of(box)):
        if name == prop:
            found.append((first, -1, None, None, place, told))
    for number in sheet.numbers():
        layer, patterns, rows = sheet.rule_of(number)
        weights = [weight_of(pattern) for pattern in patterns if fits(tree, pattern, box)]
        for place, (name, told, first) in enumerate(rows):
            if weights and name == prop:
                found.append((first, number, layer, max(weights), place, told))
    found.sort(key=cmp_to_key(stronger))
    return [(one[1], one[4], one[5]) for one in found]


class ClaimsCase(unittest.TestCase):
    def claims(self, tree, sheet, box, prop="size"):
        told = claims_of(tree, sheet, box, prop)
        self.assertIs(type(told), list)
        self.assertEqual(winner_of(tree, sheet, box, prop), told[0] if told else None)
        return told

    def ordered(self, rules, due, own=()):
        """The claims of some rules on box 1, as (rule, row) pairs."""
        tree = one_box()
        sheet = Sheet()
        tree.dress(1, tuple(own))
        for rule in rules:
            sheet.add(rule)
        self.assertEqual([one[:2] for one in self.claims(tree, sheet, 1)], due)


class ClaimsTest(ClaimsCase):
    def test_none(self):
        tree = one_box()
        sheet = Sheet()
        self.assertEqual(self.claims(tree, sheet, 1), [])
        sheet.add((0, (OTHER,), (row(1),)))
        sheet.add((0, (ANY,), (row(1, prop="gap"),)))
        sheet.add((0, (ANY,), ()))
        tree.dress(1, (row(1, prop="pad"),))
        tree.dress(0, (row(1),))
        self.assertEqual(self.claims(tree, sheet, 1), [])

    def test_form(self):
        tree = one_box()
        sheet = Sheet()
        sheet.add((0, (ANY,), (row(1, prop="gap"), row(2), row(3, True))))
        tree.dress(1, (row(4, prop="pad"), row(5)))
        self.assertEqual(self.claims(tree, sheet, 1), [(0, 2, value(3)), (-1, 1, value(5)), (0, 1, value(2))])
        self.assertEqual(self.claims(tree, sheet, 0), [(0, 2, value(3)), (0, 1, value(2))])
        self.assertEqual(self.claims(tree, sheet, 1, "gap"), [(0, 0, value(1))])
        self.assertEqual(self.claims(tree, sheet, 1, "pad"), [(-1, 0, value(4))])
        self.assertEqual(self.claims(tree, sheet, 1, "ink"), [])

    def test_before_all(self):
        # All else speaks for the other claim: own row, layer, weight, number, place.
        self.ordered([(0, (ANY,), (row(1, True),)), (9, (BOTH,), (row(2), row(3)))], [(0, 0), (1, 1), (1, 0)])
        self.ordered([(0, (ANY,), (row(1, True),))], [(0, 0), (-1, 0)], own=[row(2)])

    def test_own_rows(self):
        self.ordered([(9, (BOTH,), (row(1),))], [(-1, 0), (0, 0)], own=[row(2)])
        self.ordered([(0, (BOTH,), (row(1, True),))], [(-1, 0), (0, 0)], own=[row(2, True)])
        self.ordered(
            [(0, (BOTH,), (row(1, True), row(1)))], [(-1, 1), (0, 0), (-1, 0), (0, 1)], own=[row(2), row(2, True)],
        )

    def test_layers_both_ways(self):
        self.ordered([(3, (ANY,), (row(1),)), (2, (BOTH,), (row(2), row(3)))], [(0, 0), (1, 1), (1, 0)])
        self.ordered([(2, (ANY,), (row(1, True),)), (3, (BOTH,), (row(2, True),))], [(0, 0), (1, 0)])
        self.ordered([(0, (ANY,), (row(1),)), (9, (ANY,), (row(2),))], [(1, 0), (0, 0)])
        self.ordered([(9, (BOTH,), (row(1, True),)), (0, (ANY,), (row(2, True),))], [(1, 0), (0, 0)])

    def test_weights(self):
        self.ordered([(1, (NAMED,), (row(1),)), (1, (ANY,), (row(2), row(3)))], [(0, 0), (1, 1), (1, 0)])
        self.ordered([(1, (MARKED,), (row(1),)), (1, (NAMED,), (row(2),))], [(0, 0), (1, 0)])
        self.ordered([(1, (BOTH,), (row(1),)), (1, (MARKED,), (row(2),))], [(0, 0), (1, 0)])
        self.ordered([(1, (BOTH,), (row(1, True),)), (1, (MARKED,), (row(2, True),))], [(0, 0), (1, 0)])
        names = (("", (("name", "a"),) * 12),)
        self.ordered([(1, (MARKED,), (row(1),)), (1, (names,), (row(2),))], [(0, 0), (1, 0)])

    def test_the_greatest_pattern_that_fits(self):
        # The heaviest pattern doesn't fit; of the others the heavier one counts, wherever it stands.
        self.ordered([(1, (MARKED,), (row(1),)), (1, (ANY, OTHER, NAMED), (row(2),))], [(0, 0), (1, 0)])
        self.ordered([(1, (ANY, BOTH), (row(1),)), (1, (MARKED,), (row(2),))], [(0, 0), (1, 0)])
        self.ordered([(1, (BOTH, ANY), (row(1),)), (1, (MARKED,), (row(2),))], [(0, 0), (1, 0)])
        self.ordered([(1, (NAMED, MARKED), (row(1),)), (1, (BOTH,), (row(2),))], [(1, 0), (0, 0)])

    def test_a_rule_several_of_whose_patterns_fit_claims_once(self):
        self.ordered([(1, (ANY, NAMED, ANY, BOTH), (row(1), row(2)))], [(0, 1), (0, 0)])

    def test_rule_numbers(self):
        self.ordered([(1, (ANY,), (row(1), row(1))), (1, (ANY,), (row(2),))], [(1, 0), (0, 1), (0, 0)])
        self.ordered([(1, (ANY,), (row(1, True),)), (1, (ANY,), (row(2, True),))], [(1, 0), (0, 0)])
        tree = one_box()
        sheet = Sheet()
        for number in range(12):
            sheet.add((1, (ANY,), (row(number),)))
        sheet.drop(11)
        sheet.drop(3)
        self.assertEqual([one[0] for one in self.claims(tree, sheet, 1)], [10, 9, 8, 7, 6, 5, 4, 2, 1, 0])

    def test_places(self):
        self.ordered([(1, (ANY,), (row(1), row(2), row(3)))], [(0, 2), (0, 1), (0, 0)])
        self.ordered([(1, (ANY,), (row(1, True), row(2), row(3, True)))], [(0, 2), (0, 0), (0, 1)])
        self.ordered([], [(-1, 11), (-1, 1), (-1, 0)], own=[row(1), row(2)] + [row(1, prop="gap")] * 9 + [row(3)])

    def test_by_every_order_of_adding(self):
        rules = [
            (2, (ANY,), (row(1, True),)), (3, (MARKED,), (row(2, True),)), (3, (NAMED,), (row(3),)),
            (2, (BOTH,), (row(4),)),
        ]
        for some in permutations(rules):
            tree = one_box()
            sheet = Sheet()
            for rule in some:
                sheet.add(rule)
            self.assertEqual([one[2] for one in self.claims(tree, sheet, 1)], [value(number) for number in (1, 2, 3, 4)])

    def test_claims_made_by_chance(self):
        chance = Random(18)
        for turn in range(15):
            tree = grown(chance, 12)
            sheet = Sheet()
            for number in range(12):
                patterns = tuple(pattern_by(chance, 2) for again in range(chance.randrange(1, 4)))
                rows = tuple(
                    row(chance.randrange(9), chance.random() < 0.4, chance.choice(("size", "gap")))
                    for again in range(chance.randrange(4))
                )
                sheet.add((chance.randrange(3), patterns, rows))
            for box in order_of(tree):
                tree.dress(box, tuple(row(again, chance.random() < 0.5) for again in range(chance.randrange(3))))
            for box in order_of(tree):
                for prop in PROPS:
                    self.assertEqual(self.claims(tree, sheet, box, prop), all_claims(tree, sheet, box, prop))

    def test_asked_again_behind_deeds(self):
        tree = one_box()
        sheet = Sheet()
        sheet.add((1, (MARKED,), (row(1),)))
        self.assertEqual(self.claims(tree, sheet, 1), [(0, 0, value(1))])
        tree.bare(1, "x")
        self.assertEqual(self.claims(tree, sheet, 1), [])
        tree.mark(1, "x")
        sheet.drop(0)
        self.assertEqual(self.claims(tree, sheet, 1), [])

    def test_the_list_told_is_the_askers_own(self):
        tree = one_box()
        sheet = Sheet()
        sheet.add((1, (ANY,), (row(1),)))
        claims_of(tree, sheet, 1, "size").clear()
        self.assertEqual(self.claims(tree, sheet, 1), [(0, 0, value(1))])


if __name__ == "__main__":
    unittest.main()
