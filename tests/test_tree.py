"""Points 6 to 9, with point 2: the tree, its deeds, its questions and what it refuses."""

import unittest
from random import Random

from helper import depth_in, order_of
from stylehouse.errors import HouseError, NoBox, NoName, NoPlace, Rooted, TooMuch
from stylehouse.tree import MOST_BOXES, MOST_DEEP, Tree

GREAT = 10 ** 30 - 1
WRONG_NAMES = ("", "A", "aB", "abcdefghi", "a b", "a1", "a_b", "-", "a\n", "a\t", " a")


def shape(tree, box=0):
    """All that a tree tells of a box and of those beneath it."""
    return (
        box, tree.name_of(box), tree.marks_of(box), tree.words_of(box), tree.rows_of(box), tree.holder_of(box),
        [shape(tree, one) for one in tree.boxes_of(box)],
    )


class TreeCase(unittest.TestCase):
    def refused(self, error, tree, deed, *told):
        before = shape(tree)
        with self.subTest(deed=deed, told=told):
            with self.assertRaises(HouseError) as taken:
                getattr(tree, deed)(*told)
            self.assertIs(type(taken.exception), error)
            self.assertEqual(shape(tree), before)


def small():
    """0 holds 1, 2, 3; 2 holds 4, 5; 5 holds 6."""
    tree = Tree("house")
    for place, name in enumerate(("a", "b", "c")):
        tree.put(0, place, name)
    tree.put(2, 0, "d")
    tree.put(2, 1, "e")
    tree.put(5, 0, "f")
    return tree


def pole(length):
    """A tree with one box in each depth, as deep as told; box N stands N deep."""
    tree = Tree("house")
    for holder in range(length):
        tree.put(holder, 0, "a")
    return tree


def full():
    tree = Tree("house")
    for number in range(1, MOST_BOXES):
        assert tree.put(0, 0, "a") == number
    return tree


class StartTest(TreeCase):
    def test_bounds(self):
        self.assertEqual((MOST_BOXES, MOST_DEEP), (90, 12))

    def test_the_root(self):
        tree = Tree("house")
        self.assertEqual(shape(tree), (0, "house", [], [], (), None, []))
        self.assertIs(tree.stands(0), True)
        self.assertIs(tree.stands(1), False)

    def test_the_roots_name(self):
        for name in ("a", "abcdefgh", "zz"):
            self.assertEqual(Tree(name).name_of(0), name)
        for name in WRONG_NAMES:
            with self.subTest(name=name):
                with self.assertRaises(NoName):
                    Tree(name)

    def test_a_new_box_has_nothing(self):
        tree = Tree("house")
        tree.mark(0, "x")
        tree.write(0, ["w"])
        tree.dress(0, (("size", ("number", 1, 1), False),))
        tree.put(0, 0, "a")
        self.assertEqual(shape(tree, 1), (1, "a", [], [], (), 0, []))


class PutTest(TreeCase):
    def test_numbers_go_on(self):
        tree = Tree("house")
        self.assertEqual([tree.put(0, 0, "a") for turn in range(5)], [1, 2, 3, 4, 5])
        self.assertEqual(tree.boxes_of(0), [5, 4, 3, 2, 1])

    def test_no_number_twice_behind_cuts(self):
        tree = small()
        tree.cut(6)
        self.assertEqual(tree.put(0, 0, "a"), 7)
        tree.cut(7)
        tree.cut(2)
        self.assertEqual(tree.put(0, 0, "a"), 8)
        for box in (2, 4, 5, 6, 7):
            self.assertIs(tree.stands(box), False)

    def test_no_number_spent_by_a_refused_put(self):
        tree = small()
        self.refused(NoBox, tree, "put", 9, 0, "a")
        self.refused(NoPlace, tree, "put", 0, 4, "a")
        self.refused(NoName, tree, "put", 0, 0, "A")
        self.assertEqual(tree.put(0, 0, "a"), 7)
        tree = full()
        self.refused(TooMuch, tree, "put", 0, 0, "a")
        tree.cut(3)
        self.assertEqual(tree.put(0, 0, "a"), 90)

    def test_each_place_of_a_row(self):
        for place in range(4):
            tree = small()
            self.assertEqual(tree.put(0, place, "new"), 7)
            due = [1, 2, 3]
            due.insert(place, 7)
            self.assertEqual(tree.boxes_of(0), due)
            self.assertEqual(tree.holder_of(7), 0)
            self.assertEqual(tree.name_of(7), "new")
            self.assertEqual(tree.boxes_of(2), [4, 5])

    def test_two_trees_side_by_side(self):
        one = Tree("one")
        other = Tree("other")
        self.assertEqual(one.put(0, 0, "a"), 1)
        self.assertEqual(one.put(1, 0, "b"), 2)
        one.mark(0, "x")
        one.write(0, ["w"])
        one.dress(0, ((),))
        self.assertEqual(shape(other), (0, "other", [], [], (), None, []))
        self.assertEqual(other.put(0, 0, "c"), 1)
        other.cut(1)
        self.assertEqual(order_of(one), [0, 1, 2])


class CutTest(TreeCase):
    def test_with_all_beneath_in_order(self):
        tree = small()
        self.assertEqual(tree.cut(2), [2, 4, 5, 6])
        self.assertEqual(tree.boxes_of(0), [1, 3])
        self.assertEqual([tree.stands(box) for box in range(8)], [True, True, False, True] + [False] * 4)

    def test_order_is_the_trees_and_not_the_numbers(self):
        tree = Tree("house")
        tree.put(0, 0, "a")
        tree.put(1, 0, "b")
        tree.put(1, 0, "c")
        tree.put(2, 0, "d")
        tree.put(3, 0, "e")
        self.assertEqual(tree.cut(1), [1, 3, 5, 2, 4])

    def test_one_alone(self):
        tree = small()
        self.assertEqual(tree.cut(1), [1])
        self.assertEqual(tree.cut(6), [6])
        self.assertEqual(tree.boxes_of(5), [])

    def test_what_is_gone_is_no_box(self):
        tree = small()
        tree.cut(2)
        for box in (2, 4, 5, 6):
            self.refused(NoBox, tree, "cut", box)
            self.refused(NoBox, tree, "put", box, 0, "a")


class MoveTest(TreeCase):
    def test_within_its_row(self):
        for box in (1, 2, 3):
            for place in range(3):
                tree = small()
                due = [one for one in (1, 2, 3) if one != box]
                due.insert(place, box)
                with self.subTest(box=box, place=place):
                    self.assertIs(tree.move(box, 0, place), due != [1, 2, 3])
                    self.assertEqual(tree.boxes_of(0), due)
                    self.assertEqual(order_of(tree, 2), [2, 4, 5, 6])

    def test_to_another_row_with_all_beneath(self):
        for place in range(4):
            tree = small()
            due = [1, 2, 3]
            due.insert(place, 5)
            self.assertIs(tree.move(5, 0, place), True)
            self.assertEqual(tree.boxes_of(0), due)
            self.assertEqual(tree.boxes_of(2), [4])
            self.assertEqual((tree.holder_of(5), tree.holder_of(6)), (0, 5))

    def test_deeper(self):
        tree = small()
        self.assertIs(tree.move(2, 3, 0), True)
        self.assertEqual(order_of(tree), [0, 1, 3, 2, 4, 5, 6])

    def test_marks_words_and_rows_go_along(self):
        tree = small()
        tree.mark(5, "x")
        tree.write(6, ["w"])
        tree.dress(5, ((1,),))
        tree.move(5, 1, 0)
        self.assertEqual(shape(tree, 5), (5, "e", ["x"], [], ((1,),), 1, [(6, "f", [], ["w"], (), 5, [])]))

    def test_places_are_those_of_the_row_without_the_box(self):
        tree = small()
        self.refused(NoPlace, tree, "move", 1, 0, 3)
        self.refused(NoPlace, tree, "move", 1, 0, -1)
        self.refused(NoPlace, tree, "move", 1, 2, 3)
        self.assertIs(tree.move(1, 0, 2), True)
        self.assertIs(tree.move(1, 0, 2), False)
        self.assertEqual(tree.boxes_of(0), [2, 3, 1])

    def test_a_place_in_its_former_row_is_free(self):
        tree = small()
        self.assertIs(tree.move(6, 5, 0), False)
        self.refused(NoPlace, tree, "move", 6, 5, 1)
        self.assertIs(tree.move(6, 0, 3), True)
        self.assertEqual(tree.boxes_of(5), [])


class SayingsTest(TreeCase):
    def test_marks(self):
        tree = small()
        self.assertIs(tree.mark(1, "x"), True)
        self.assertIs(tree.mark(1, "x"), False)
        self.assertIs(tree.mark(1, "b"), True)
        self.assertIs(tree.mark(1, "m"), True)
        self.assertEqual(tree.marks_of(1), ["b", "m", "x"])
        self.assertEqual(tree.marks_of(2), [])
        self.assertIs(tree.bare(1, "c"), False)
        self.assertIs(tree.bare(2, "b"), False)
        self.assertIs(tree.bare(1, "b"), True)
        self.assertIs(tree.bare(1, "b"), False)
        self.assertEqual(tree.marks_of(1), ["m", "x"])
        self.assertIs(tree.mark(1, "b"), True)
        self.assertEqual(tree.marks_of(1), ["b", "m", "x"])

    def test_words(self):
        tree = small()
        self.assertIs(tree.write(1, []), False)
        self.assertIs(tree.write(1, ["one", "two"]), True)
        self.assertIs(tree.write(1, ["one", "two"]), False)
        self.assertIs(tree.write(1, ["two", "one"]), True)
        self.assertEqual(tree.words_of(1), ["two", "one"])
        self.assertIs(tree.write(1, ["two", "one", "one"]), True)
        self.assertIs(tree.write(1, ["two"]), True)
        self.assertIs(tree.write(1, []), True)
        self.assertEqual(tree.words_of(1), [])

    def test_rows(self):
        tree = small()
        one = ("size", ("number", 1, 1), False)
        other = ("ink", ("hand",), True)
        self.assertIs(tree.dress(1, ()), False)
        self.assertIs(tree.dress(1, (one, other)), True)
        self.assertIs(tree.dress(1, (one, other)), False)
        self.assertIs(tree.dress(1, (other, one)), True)
        self.assertEqual(tree.rows_of(1), (other, one))
        self.assertIs(tree.dress(1, ()), True)

    def test_rows_are_any_tuple_of_tuples(self):
        tree = small()
        for rows in (((),), ((), ()), (("no", "such", "row"),), ((1, 2), ("size", ("word", "no"), True)), ((((),),),)):
            self.assertIs(tree.dress(1, rows), True)
            self.assertEqual(tree.rows_of(1), rows)
            self.assertIs(tree.dress(1, rows), False)


class ListsTest(TreeCase):
    def test_words_handed_in(self):
        tree = small()
        words = ["one", "two"]
        tree.write(1, words)
        words.append("three")
        words[0] = "none"
        self.assertEqual(tree.words_of(1), ["one", "two"])
        self.assertIs(tree.write(1, ["one", "two"]), False)

    def test_words_are_not_changed(self):
        tree = small()
        words = ["two", "one"]
        tree.write(1, words)
        tree.write(1, [])
        self.assertEqual(words, ["two", "one"])

    def test_lists_told(self):
        tree = small()
        tree.mark(2, "x")
        tree.write(2, ["w"])
        before = shape(tree)
        for told in (tree.boxes_of(2), tree.boxes_of(0), tree.marks_of(2), tree.words_of(2)):
            told.append("more")
            told[0] = "other"
        self.assertEqual(shape(tree), before)

    def test_lists_told_stay(self):
        tree = small()
        tree.mark(2, "x")
        tree.write(2, ["w"])
        told = (tree.boxes_of(0), tree.marks_of(2), tree.words_of(2))
        tree.move(1, 0, 2)
        tree.put(0, 0, "new")
        tree.mark(2, "a")
        tree.write(2, ["v"])
        gone = tree.cut(2)
        gone.clear()
        self.assertEqual(told, ([1, 2, 3], ["x"], ["w"]))
        self.assertEqual(order_of(tree), [0, 7, 3, 1])


class RefusalsTest(TreeCase):
    def test_numbers_that_do_not_stand(self):
        tree = small()
        tree.cut(5)
        for box in (5, 6, 7, 8, 90, -1, -2, -GREAT, GREAT, 10 ** 12):
            self.assertIs(tree.stands(box), False)
            self.refused(NoBox, tree, "put", box, 0, "a")
            self.refused(NoBox, tree, "cut", box)
            self.refused(NoBox, tree, "move", box, 0, 0)
            self.refused(NoBox, tree, "move", 1, box, 0)
            self.refused(NoBox, tree, "move", box, box, 0)
            self.refused(NoBox, tree, "mark", box, "x")
            self.refused(NoBox, tree, "bare", box, "x")
            self.refused(NoBox, tree, "write", box, ["w"])
            self.refused(NoBox, tree, "dress", box, ())
            for question in ("name_of", "marks_of", "words_of", "rows_of", "holder_of", "boxes_of"):
                self.refused(NoBox, tree, question, box)

    def test_rooted(self):
        tree = small()
        self.refused(Rooted, tree, "cut", 0)
        self.refused(Rooted, tree, "move", 0, 0, 0)
        self.refused(Rooted, tree, "move", 0, 1, 0)
        for holder in (2, 4, 5, 6):
            self.refused(Rooted, tree, "move", 2, holder, 0)
        self.refused(Rooted, tree, "move", 6, 6, 0)

    def test_places(self):
        tree = small()
        for place in (-1, -2, 4, 5, GREAT, -GREAT):
            self.refused(NoPlace, tree, "put", 0, place, "a")
            self.refused(NoPlace, tree, "move", 4, 0, place)
        self.refused(NoPlace, tree, "put", 1, 1, "a")
        self.refused(NoPlace, tree, "move", 1, 3, 1)

    def test_names(self):
        tree = small()
        for name in WRONG_NAMES:
            self.refused(NoName, tree, "put", 0, 0, name)
            self.refused(NoName, tree, "mark", 1, name)
            self.refused(NoName, tree, "bare", 1, name)

    def test_ninety_boxes(self):
        tree = full()
        self.assertEqual(len(order_of(tree)), 90)
        self.refused(TooMuch, tree, "put", 0, 0, "a")
        self.refused(TooMuch, tree, "put", 7, 0, "a")
        self.assertIs(tree.move(3, 4, 0), True)
        tree.cut(4)
        self.assertEqual(tree.put(0, 0, "a"), 90)
        self.assertEqual(tree.put(90, 0, "a"), 91)
        self.refused(TooMuch, tree, "put", 0, 0, "a")

    def test_twelve_deep(self):
        tree = pole(12)
        self.assertEqual(depth_in(tree, 12), 12)
        self.refused(TooMuch, tree, "put", 12, 0, "a")
        self.assertEqual(tree.put(11, 0, "a"), 13)

    def test_a_move_of_boxes_with_boxes_beneath(self):
        tree = pole(8)
        for name in ("a", "b", "c", "d"):
            tree.put(0, 0, name)
        # 12 holds 11 holds 10 holds 9: four boxes, so beneath one that is 8 deep they go down to 12.
        for holder in (12, 11, 10):
            tree.move(holder - 1, holder, 0)
        self.assertIs(tree.move(12, 8, 0), True)
        self.assertEqual(depth_in(tree, 9), 12)
        tree.move(12, 0, 0)
        self.assertEqual(tree.put(9, 0, "e"), 13)
        self.refused(TooMuch, tree, "move", 12, 8, 0)
        self.assertIs(tree.move(12, 7, 0), True)
        self.assertIs(tree.move(12, 7, 1), True)
        self.assertIs(tree.move(12, 7, 1), False)
        self.assertEqual(depth_in(tree, 13), 12)

    def test_the_deepest_and_not_the_last_one_counts(self):
        tree = pole(11)
        first = tree.put(0, 0, "a")
        second = tree.put(first, 0, "b")
        tree.put(first, 1, "c")
        self.refused(TooMuch, tree, "move", first, 11, 0)
        tree.put(second, 0, "d")
        self.refused(TooMuch, tree, "move", first, 10, 0)
        self.assertIs(tree.move(first, 9, 0), True)

    def test_their_order_for_put(self):
        tree = full()
        self.refused(NoBox, tree, "put", 90, -1, "A")
        self.refused(NoBox, tree, "put", 90, -1, "a")
        self.refused(NoBox, tree, "put", 90, 0, "A")
        self.refused(NoBox, tree, "put", 90, 0, "a")
        self.refused(NoPlace, tree, "put", 0, 90, "A")
        self.refused(NoPlace, tree, "put", 0, 90, "a")
        self.refused(NoName, tree, "put", 0, 0, "A")
        deep = pole(12)
        self.refused(NoPlace, deep, "put", 12, 1, "A")
        self.refused(NoPlace, deep, "put", 12, 1, "a")
        self.refused(NoName, deep, "put", 12, 0, "A")

    def test_their_order_for_move(self):
        tree = pole(12)
        tree.put(0, 0, "a")
        self.refused(NoBox, tree, "move", 0, 50, -1)
        self.refused(NoBox, tree, "move", 50, 0, -1)
        self.refused(Rooted, tree, "move", 0, 12, -1)
        self.refused(Rooted, tree, "move", 1, 12, -1)
        self.refused(Rooted, tree, "move", 1, 1, 50)
        self.refused(NoPlace, tree, "move", 13, 12, 1)
        self.refused(TooMuch, tree, "move", 13, 12, 0)
        self.assertEqual(tree.put(0, 0, "a"), 14)

    def test_their_order_for_cut_and_marks(self):
        tree = small()
        self.refused(NoBox, tree, "mark", 9, "A")
        self.refused(NoBox, tree, "bare", 9, "A")


class Model:
    """The same tree once more, as rows of rows, kept as simply as can be."""

    def __init__(self):
        self.holder = {0: None}
        self.row = {0: []}

    def under(self, box):
        return [box] + [other for one in self.row[box] for other in self.under(one)]

    def deep(self, box):
        return 0 if self.holder[box] is None else 1 + self.deep(self.holder[box])


class LongRowsTest(TreeCase):
    def one_put(self, chance, tree, model, number):
        holder = chance.choice(sorted(model.row))
        place = chance.randrange(len(model.row[holder]) + 1)
        if len(model.row) == 90 or model.deep(holder) == 12:
            self.refused(TooMuch, tree, "put", holder, place, "a")
            return number
        self.assertEqual(tree.put(holder, place, "a"), number)
        model.row[holder].insert(place, number)
        model.row[number] = []
        model.holder[number] = holder
        return number + 1

    def one_cut(self, chance, tree, model):
        box = chance.choice(sorted(model.row))
        if box == 0:
            self.refused(Rooted, tree, "cut", box)
            return
        gone = model.under(box)
        self.assertEqual(tree.cut(box), gone)
        model.row[model.holder[box]].remove(box)
        for one in gone:
            model.row.pop(one)
            model.holder.pop(one)

    def one_move(self, chance, tree, model):
        box = chance.choice(sorted(model.row))
        holder = chance.choice(sorted(model.row))
        if box == 0 or holder in model.under(box):
            self.refused(Rooted, tree, "move", box, holder, 0)
            return
        row = [one for one in model.row[holder] if one != box]
        place = chance.randrange(len(row) + 1)
        lowest = max(model.deep(one) for one in model.under(box)) - model.deep(box)
        if model.deep(holder) + 1 + lowest > 12:
            self.refused(TooMuch, tree, "move", box, holder, place)
            return
        row.insert(place, box)
        self.assertIs(tree.move(box, holder, place), row != model.row[holder])
        model.row[model.holder[box]].remove(box)
        model.row[holder] = row
        model.holder[box] = holder

    def test_behind_long_rows_of_deeds(self):
        for seed in range(6):
            chance = Random(seed)
            tree = Tree("house")
            model = Model()
            number = 1
            for turn in range(400):
                deed = chance.randrange(20)
                if deed < 10 + 4 * (seed % 2):
                    number = self.one_put(chance, tree, model, number)
                elif deed < 18:
                    self.one_move(chance, tree, model)
                elif chance.random() < 0.4:
                    self.one_cut(chance, tree, model)
                self.assertEqual(order_of(tree), model.under(0))
            for box in model.row:
                self.assertEqual(tree.boxes_of(box), model.row[box])
                self.assertEqual(tree.holder_of(box), model.holder[box])


if __name__ == "__main__":
    unittest.main()
