"""Points 13 and 14: patterns, their ends, their chains and their weights."""

import unittest
from itertools import product
from random import Random

from helper import grown, order_of, pattern_by
from stylehouse.patterns import chain_of, ends_of, fits, weight_of
from stylehouse.traits import trait_of
from stylehouse.tree import Tree

ANY = ("any",)


def small():
    """0 holds 1, 2, 3, 4; 2 holds 5, 6; 5 holds 7. Boxes 1, 2, 5 are called a, the others b; 1, 3 and 6 bear x."""
    tree = Tree("house")
    for place, name in enumerate("aabb"):
        tree.put(0, place, name)
    tree.put(2, 0, "a")
    tree.put(2, 1, "b")
    tree.put(5, 0, "b")
    for box in (1, 3, 6):
        tree.mark(box, "x")
    return tree


def joins(tree, join, one, other):
    """Whether the other box stands to the one as the join says."""
    if join == " ":
        return other != one and other in order_of(tree, one)
    if join == ">":
        return other in tree.boxes_of(one)
    if other == 0 or one == 0 or tree.holder_of(one) != tree.holder_of(other):
        return False
    row = tree.boxes_of(tree.holder_of(one))
    far = row.index(other) - row.index(one)
    return far == 1 if join == "+" else far > 0


def is_chain(tree, pattern, chain):
    if len(chain) != len(pattern):
        return False
    for place, (join, traits) in enumerate(pattern):
        if not all(trait_of(told).fits(tree, chain[place]) for told in traits):
            return False
        if place and not joins(tree, join, chain[place - 1], chain[place]):
            return False
    return True


def all_ends(tree, pattern):
    """The ends, by trying every row of boxes."""
    found = []
    for length in range(1, len(pattern) + 1):
        last = {
            chain[-1] for chain in product(order_of(tree), repeat=length) if is_chain(tree, pattern[:length], chain)
        }
        found.append([box for box in order_of(tree) if box in last])
    return found


class PatternCase(unittest.TestCase):
    def agree(self, tree, pattern):
        """Ends, fits and chains say the same; the boxes that the pattern fits."""
        ends = ends_of(tree, pattern)
        self.assertEqual(len(ends), len(pattern))
        for place, boxes in enumerate(ends):
            self.assertEqual(boxes, [box for box in order_of(tree) if box in boxes])
            self.assertEqual(ends_of(tree, pattern[:place + 1]), ends[:place + 1])
        for box in order_of(tree):
            answer = fits(tree, pattern, box)
            self.assertIs(type(answer), bool)
            self.assertEqual(answer, box in ends[-1])
            chain = chain_of(tree, pattern, box)
            if not answer:
                self.assertIsNone(chain)
            else:
                self.assertIs(type(chain), list)
                self.assertEqual(chain[-1], box)
                self.assertTrue(is_chain(tree, pattern, chain))
        return ends[-1]


class EndsTest(PatternCase):
    def test_one_step(self):
        tree = small()
        self.assertEqual(self.agree(tree, (("", ()),)), [0, 1, 2, 5, 7, 6, 3, 4])
        self.assertEqual(self.agree(tree, (("", (ANY,)),)), [0, 1, 2, 5, 7, 6, 3, 4])
        self.assertEqual(self.agree(tree, (("", (("name", "a"),)),)), [1, 2, 5])
        self.assertEqual(self.agree(tree, (("", (("name", "b"), ("mark", "x"))),)), [6, 3])
        self.assertEqual(self.agree(tree, (("", (("name", "c"),)),)), [])
        self.assertEqual(self.agree(tree, (("", (("name", "a"), ("name", "b"))),)), [])

    def test_somewhere_beneath(self):
        tree = small()
        self.assertEqual(self.agree(tree, (("", (("name", "a"),)), (" ", ()))), [5, 7, 6])
        self.assertEqual(self.agree(tree, (("", (("name", "house"),)), (" ", (("mark", "x"),)))), [1, 6, 3])
        self.assertEqual(self.agree(tree, (("", ()), (" ", ()), (" ", ()), (" ", ()))), [7])
        self.assertEqual(self.agree(tree, (("", (("name", "b"),)), (" ", ()))), [])

    def test_straight_beneath(self):
        tree = small()
        self.assertEqual(self.agree(tree, (("", (("name", "a"),)), (">", ()))), [5, 7, 6])
        self.assertEqual(self.agree(tree, (("", (("name", "house"),)), (">", (("name", "b"),)))), [3, 4])
        self.assertEqual(self.agree(tree, (("", (("name", "house"),)), (">", ()), (">", ()))), [5, 6])

    def test_next_behind(self):
        tree = small()
        self.assertEqual(self.agree(tree, (("", ()), ("+", ()))), [2, 6, 3, 4])
        self.assertEqual(self.agree(tree, (("", (("mark", "x"),)), ("+", ()))), [2, 4])
        self.assertEqual(self.agree(tree, (("", (("name", "a"),)), ("+", (("name", "b"),)))), [6, 3])
        self.assertEqual(self.agree(tree, (("", (("name", "house"),)), ("+", ()))), [])

    def test_somewhere_behind(self):
        tree = small()
        self.assertEqual(self.agree(tree, (("", ()), ("~", ()))), [2, 6, 3, 4])
        self.assertEqual(self.agree(tree, (("", (("mark", "x"),)), ("~", ()))), [2, 3, 4])
        self.assertEqual(self.agree(tree, (("", (("name", "a"),)), ("~", (("name", "b"),)))), [6, 3, 4])
        self.assertEqual(self.agree(tree, (("", ()), ("~", ()), ("~", ()))), [3, 4])
        self.assertEqual(self.agree(tree, (("", ()), ("~", ()), ("~", ()), ("+", ()))), [4])

    def test_the_nearest_is_not_always_right(self):
        # The nearest a above 7 is 5, but that one stands in no row behind another a.
        tree = small()
        pattern = (("", (("name", "a"),)), ("+", (("name", "a"),)), (" ", (("name", "b"),)))
        self.assertEqual(self.agree(tree, pattern), [7, 6])
        self.assertEqual(chain_of(tree, pattern, 7), [1, 2, 7])
        # The box next ahead of 2 is 1, which stands behind nothing.
        pattern = (("", (("front", 1, 0), ("name", "a"))), ("~", ()), ("+", ()))
        self.assertEqual(self.agree(tree, pattern), [3, 4])

    def test_all_ends(self):
        tree = small()
        pattern = (("", (("name", "house"),)), (" ", (("name", "a"),)), (">", ()), ("~", (("mark", "x"),)))
        self.assertEqual(ends_of(tree, pattern), [[0], [1, 2, 5], [5, 7, 6], [6]])
        self.assertEqual(ends_of(Tree("house"), pattern), [[0], [], [], []])

    def test_eight_steps(self):
        tree = Tree("house")
        for holder in range(9):
            tree.put(holder, 0, "a")
        for join in (" ", ">"):
            pattern = (("", ()),) + ((join, ()),) * 7
            self.assertEqual(self.agree(tree, pattern), [7, 8, 9])
        for place in range(1, 10):
            tree.put(0, place, "b")
        row = tree.boxes_of(0)
        for join in ("+", "~"):
            pattern = (("", ()),) + ((join, ()),) * 7
            self.assertEqual(self.agree(tree, pattern), row[7:])

    def test_twelve_traits_in_a_step(self):
        tree = small()
        traits = (("name", "a"),) + (("not", ("mark", "y")),) * 10 + (("mark", "x"),)
        self.assertEqual(self.agree(tree, (("", traits),)), [1])

    def test_a_long_row_with_many_ways(self):
        tree = Tree("house")
        for place in range(88):
            tree.put(0, place, "a")
        pattern = (("", (("name", "b"),)),) + (("~", ()),) * 7
        self.assertEqual(self.agree(tree, pattern), [])
        pattern = (("", ()),) + (("~", ()),) * 7
        self.assertEqual(self.agree(tree, pattern), tree.boxes_of(0)[7:])

    def test_patterns_made_by_chance(self):
        chance = Random(13)
        for turn in range(25):
            tree = grown(chance, chance.randrange(1, 9), 4)
            for again in range(12):
                pattern = pattern_by(chance, 3)
                with self.subTest(pattern=pattern):
                    self.assertEqual(ends_of(tree, pattern), all_ends(tree, pattern))
                    self.agree(tree, pattern)

    def test_big_trees(self):
        chance = Random(14)
        for turn in range(6):
            tree = grown(chance, 60)
            for again in range(8):
                self.agree(tree, pattern_by(chance, 8))

    def test_asked_again_behind_deeds(self):
        tree = small()
        pattern = (("", (("mark", "x"),)), ("+", ()))
        self.assertEqual(self.agree(tree, pattern), [2, 4])
        tree.bare(1, "x")
        self.assertEqual(self.agree(tree, pattern), [4])
        tree.move(4, 0, 0)
        self.assertEqual(self.agree(tree, pattern), [])

    def test_lists_told_are_the_askers_own(self):
        tree = small()
        pattern = (("", ()), (">", ()))
        told = ends_of(tree, pattern)
        told[0].clear()
        told[1].append(99)
        chain_of(tree, pattern, 1).clear()
        self.assertEqual(ends_of(tree, pattern)[1], [1, 2, 5, 7, 6, 3, 4])
        self.assertEqual(chain_of(tree, pattern, 1), [0, 1])


class WeightTest(PatternCase):
    def test_sums(self):
        self.assertEqual(weight_of((("", ()),)), (0, 0))
        self.assertEqual(weight_of((("", (ANY,)), (" ", (ANY,)))), (0, 0))
        self.assertEqual(weight_of((("", (("name", "a"), ("mark", "x"))),)), (1, 1))
        self.assertEqual(weight_of((("", (("name", "a"),)), (">", (("name", "b"),)))), (0, 2))
        self.assertEqual(
            weight_of((
                ("", (("name", "a"), ("mark", "x"), ("not", ("mark", "y")))),
                ("~", (("name", "b"), ("front", 1, 0), ("back", 1, 2))),
                ("+", (("one", (("name", "c"), ("any",))),)),
            )),
            (4, 3),
        )
        self.assertEqual(weight_of((("", (("one", (("name", "c"), ("mark", "x"))),)),)), (1, 0))

    def test_marks_and_names_are_not_mixed(self):
        pattern = (("", (("name", "a"),) * 12),) + ((" ", (("name", "a"),) * 12),) * 7
        self.assertEqual(weight_of(pattern), (0, 96))
        self.assertIs(type(weight_of(pattern)), tuple)


if __name__ == "__main__":
    unittest.main()
