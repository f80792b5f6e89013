"""Points 11 and 12: traits and their weights."""

import unittest
from random import Random

from helper import grown, order_of, trait_by
from stylehouse.traits import Trait, trait_of
from stylehouse.tree import Tree

GREAT = 10 ** 30 - 1


def rowed(length):
    """A root with one row of so many boxes, from 1 on."""
    tree = Tree("house")
    for place in range(length):
        tree.put(0, place, "a")
    return tree


def has(told, tree, box):
    """What point 11 says, once more, by taking off as often as can be."""
    kind = told[0]
    if kind == "any":
        return True
    if kind == "name":
        return tree.name_of(box) == told[1]
    if kind == "mark":
        return told[1] in tree.marks_of(box)
    if kind == "not":
        return not has(told[1], tree, box)
    if kind == "one":
        return [one for one in told[1] if has(one, tree, box)] != []
    row = [0] if box == 0 else tree.boxes_of(tree.holder_of(box))
    if kind == "back":
        row = row[::-1]
    place = row.index(box) + 1
    if told[2] == 0:
        return place == told[1]
    return rest(place, told[2]) == rest(told[1], told[2])


def rest(number, step):
    while number >= step:
        number -= step
    return number


class TraitCase(unittest.TestCase):
    def fitting(self, told, tree):
        trait = trait_of(told)
        self.assertIsInstance(trait, Trait)
        found = []
        for box in order_of(tree):
            answer = trait.fits(tree, box)
            self.assertIs(type(answer), bool)
            if answer:
                found.append(box)
        return found


class FitsTest(TraitCase):
    def test_any(self):
        self.assertEqual(self.fitting(("any",), rowed(3)), [0, 1, 2, 3])

    def test_name(self):
        tree = rowed(2)
        tree.put(1, 0, "b")
        self.assertEqual(self.fitting(("name", "house"), tree), [0])
        self.assertEqual(self.fitting(("name", "a"), tree), [1, 2])
        self.assertEqual(self.fitting(("name", "b"), tree), [3])
        self.assertEqual(self.fitting(("name", "c"), tree), [])

    def test_mark(self):
        tree = rowed(3)
        tree.mark(0, "x")
        tree.mark(2, "x")
        tree.mark(2, "y")
        self.assertEqual(self.fitting(("mark", "x"), tree), [0, 2])
        self.assertEqual(self.fitting(("mark", "y"), tree), [2])
        self.assertEqual(self.fitting(("mark", "a"), tree), [])

    def test_front_and_back_without_a_step(self):
        tree = rowed(5)
        for place in range(1, 6):
            root = [0] if place == 1 else []
            self.assertEqual(self.fitting(("front", place, 0), tree), root + [place])
            self.assertEqual(self.fitting(("back", place, 0), tree), root + [6 - place])
        for place in (0, 6, 7, GREAT):
            self.assertEqual(self.fitting(("front", place, 0), tree), [])
            self.assertEqual(self.fitting(("back", place, 0), tree), [])

    def test_front_with_a_step(self):
        tree = rowed(9)
        self.assertEqual(self.fitting(("front", 5, 3), tree), [2, 5, 8])
        self.assertEqual(self.fitting(("front", 2, 3), tree), [2, 5, 8])
        self.assertEqual(self.fitting(("front", 302, 3), tree), [2, 5, 8])
        self.assertEqual(self.fitting(("front", 0, 3), tree), [3, 6, 9])
        self.assertEqual(self.fitting(("front", 3, 3), tree), [3, 6, 9])
        self.assertEqual(self.fitting(("front", 1, 2), tree), [0, 1, 3, 5, 7, 9])
        self.assertEqual(self.fitting(("front", 0, 1), tree), list(range(10)))
        self.assertEqual(self.fitting(("front", 7, 1), tree), list(range(10)))
        self.assertEqual(self.fitting(("front", 4, 9), tree), [4])
        self.assertEqual(self.fitting(("front", 4, GREAT), tree), [4])
        self.assertEqual(self.fitting(("front", 0, 10), tree), [])

    def test_back_with_a_step(self):
        tree = rowed(8)
        self.assertEqual(self.fitting(("back", 5, 3), tree), [1, 4, 7])
        self.assertEqual(self.fitting(("back", 0, 3), tree), [3, 6])
        self.assertEqual(self.fitting(("back", 1, 3), tree), [0, 2, 5, 8])
        self.assertEqual(self.fitting(("back", 0, 8), tree), [1])
        self.assertEqual(self.fitting(("back", 9, 8), tree), [0, 8])

    def test_numbers_of_thirty_figures(self):
        tree = rowed(4)
        self.assertEqual(self.fitting(("front", GREAT, 3), tree), [3])
        self.assertEqual(self.fitting(("front", GREAT - 1, 3), tree), [2])
        self.assertEqual(self.fitting(("back", GREAT - 1, 3), tree), [3])
        self.assertEqual(self.fitting(("front", GREAT, GREAT), tree), [])
        self.assertEqual(self.fitting(("front", GREAT, GREAT - 2), tree), [2])
        self.assertEqual(self.fitting(("back", 10 ** 29, GREAT), tree), [])

    def test_both_nought(self):
        tree = rowed(4)
        self.assertEqual(self.fitting(("front", 0, 0), tree), [])
        self.assertEqual(self.fitting(("back", 0, 0), tree), [])

    def test_not(self):
        tree = rowed(3)
        tree.mark(2, "x")
        self.assertEqual(self.fitting(("not", ("mark", "x")), tree), [0, 1, 3])
        self.assertEqual(self.fitting(("not", ("not", ("mark", "x"))), tree), [2])
        self.assertEqual(self.fitting(("not", ("any",)), tree), [])
        self.assertEqual(self.fitting(("not", ("front", 0, 0)), tree), [0, 1, 2, 3])

    def test_one(self):
        tree = rowed(4)
        tree.mark(2, "x")
        self.assertEqual(self.fitting(("one", ()), tree), [])
        self.assertEqual(self.fitting(("one", (("mark", "x"),)), tree), [2])
        self.assertEqual(self.fitting(("one", (("mark", "x"), ("name", "house"))), tree), [0, 2])
        self.assertEqual(self.fitting(("one", (("mark", "x"), ("front", 2, 0))), tree), [2])
        self.assertEqual(self.fitting(("not", ("one", ())), tree), [0, 1, 2, 3, 4])
        inner = ("one", (("back", 1, 0), ("not", ("one", (("name", "a"), ("mark", "x"))))))
        self.assertEqual(self.fitting(inner, tree), [0, 4])
        self.assertEqual(self.fitting(("not", inner), tree), [1, 2, 3])

    def test_six_deep_and_sixty_in_all(self):
        tree = rowed(3)
        tree.mark(1, "x")
        deep = ("mark", "x")
        for turn in range(5):
            deep = ("not", deep)
        self.assertEqual(self.fitting(deep, tree), [0, 2, 3])
        many = ("one", tuple(("front", place, 0) for place in range(3, 62)))
        self.assertEqual(self.fitting(many, tree), [3])
        self.assertEqual(trait_of(many).weight(), (1, 0))

    def test_traits_made_by_chance(self):
        chance = Random(11)
        for turn in range(12):
            tree = grown(chance, 20)
            for again in range(40):
                told = trait_by(chance, 4)
                with self.subTest(told=told):
                    due = [box for box in order_of(tree) if has(told, tree, box)]
                    self.assertEqual(self.fitting(told, tree), due)

    def test_one_trait_for_two_trees_and_behind_deeds(self):
        one = rowed(2)
        other = rowed(3)
        other.mark(1, "x")
        last = trait_of(("back", 1, 0))
        marked = trait_of(("mark", "x"))
        for turn in range(2):
            self.assertIs(last.fits(one, 2), True)
            self.assertIs(last.fits(other, 2), False)
            self.assertIs(marked.fits(one, 1), False)
            self.assertIs(marked.fits(other, 1), True)
        one.put(0, 2, "a")
        other.cut(3)
        one.mark(1, "x")
        other.bare(1, "x")
        self.assertIs(last.fits(one, 2), False)
        self.assertIs(last.fits(other, 2), True)
        self.assertIs(marked.fits(one, 1), True)
        self.assertIs(marked.fits(other, 1), False)


class WeightTest(TraitCase):
    def test_each_kind(self):
        for told, due in (
            (("any",), (0, 0)), (("name", "a"), (0, 1)), (("mark", "a"), (1, 0)),
            (("front", 1, 0), (1, 0)), (("front", 0, 0), (1, 0)), (("back", 2, 3), (1, 0)),
            (("not", ("any",)), (0, 0)), (("not", ("name", "a")), (0, 1)), (("not", ("mark", "a")), (1, 0)),
            (("not", ("not", ("back", 1, 1))), (1, 0)),
            (("one", ()), (0, 0)), (("one", (("any",),)), (0, 0)), (("one", (("name", "a"), ("any",))), (0, 1)),
            (("one", (("name", "a"), ("mark", "b"))), (1, 0)), (("one", (("mark", "b"), ("name", "a"))), (1, 0)),
            (("one", (("mark", "b"), ("mark", "a"))), (1, 0)), (("one", (("name", "b"), ("name", "a"))), (0, 1)),
            (("one", (("name", "a"), ("not", ("one", (("any",), ("front", 1, 1)))))), (1, 0)),
            (("not", ("one", ())), (0, 0)),
        ):
            with self.subTest(told=told):
                answer = trait_of(told).weight()
                self.assertIs(type(answer), tuple)
                self.assertEqual(answer, due)

    def test_it_is_told_again(self):
        trait = trait_of(("mark", "x"))
        tree = rowed(1)
        trait.fits(tree, 1)
        self.assertEqual((trait.weight(), trait.weight()), ((1, 0), (1, 0)))


if __name__ == "__main__":
    unittest.main()
