"""Points 34 to 37, with points 3, 9, 17, 19 and 27: a house, its deeds, its settlings and its questions."""

import unittest
from random import Random

from helper import MARKS, NAMES, order_of, pattern_by
from stylehouse.claims import winner_of
from stylehouse.errors import (
    HouseError, NoBox, NoName, NoPlace, NoRule, NoValue, Rooted, TooMuch, Unsettled,
)
from stylehouse.house import House
from stylehouse.lays import lined, natural_of, raised, spans_of, wishes_of, word_wishes
from stylehouse.patterns import fits
from stylehouse.plan import laid
from stylehouse.props import PROPS, start_of
from stylehouse.sheet import Sheet
from stylehouse.tree import Tree
from stylehouse.worth import told_of, worth_of
from test_worth import value_by

ANY = (("", (("any",),)),)
EMPTY = ([], [], [], [], [], [])
GREAT = 10 ** 30 - 1
ASKED, VALUED, MEASURED, SIZED, ROWED, RAISED = range(6)


def number(top, bottom=1):
    return ("number", top, bottom)


def row(prop, value, first=False):
    return (prop, value, first)


def rule(pattern, *rows, layer=1):
    return (layer, (pattern,), tuple(rows))


def named(name):
    return (("", (("name", name),)),)


def small(width=(20, 1), measure=None):
    """0 holds 1, 2, 3; 2 holds 4, 5; 5 holds 6. Settled."""
    house = House(width, measure)
    for place, name in enumerate(("a", "b", "c")):
        house.put(0, place, name)
    house.put(2, 0, "d")
    house.put(2, 1, "e")
    house.put(5, 0, "f")
    house.settle()
    return house


class Inputs:
    """What goes into each box's five reckonings, reckoned anew from a tree and a sheet."""

    def __init__(self, tree, sheet, width, measure):
        worth = worth_of(tree, sheet)
        order = order_of(tree)
        self.worth = worth
        self.told = {box: told_of(tree, sheet, box) for box in order}
        self.whence = {
            box: {prop: winner_of(tree, sheet, box, prop) for prop in PROPS} for box in order
        }
        size = {box: worth[box]["size"][1:] for box in order}
        self.spans = {box: spans_of(tree.words_of(box), size[box], measure) for box in order}
        self.natural = {}
        things = {}
        for box in reversed(order):
            boxes = tree.boxes_of(box)
            things[box] = [self.natural[one] for one in boxes] if boxes else self.spans[box]
            self.natural[box] = natural_of(worth[box], things[box])
        widths = {0: width}
        wishes = {}
        self.lines = {}
        for box in order:
            boxes = tree.boxes_of(box)
            wishes[box] = [wishes_of(worth[one], self.natural[one]) for one in boxes]
            if not boxes:
                wishes[box] = [word_wishes(span) for span in self.spans[box]]
            self.lines[box] = lined(worth[box], widths[box], wishes[box])
            for place, one in enumerate(boxes):
                widths[one] = self.lines[box][1][place]
        self.heights = {}
        own = {}
        for box in reversed(order):
            boxes = tree.boxes_of(box)
            own[box] = [self.heights[one] for one in boxes] if boxes else [size[box]] * len(self.spans[box])
            self.heights[box] = raised(worth[box], self.lines[box][0], own[box])[0]
        self.places = laid(tree, worth, width, measure)
        self.stages = [
            {box: (self.told[box], None if box == 0 else worth[tree.holder_of(box)]) for box in order},
            {box: (tree.words_of(box), size[box]) for box in order},
            {box: (self.pick(box, "wide least most gap pad flow"), things[box]) for box in order},
            {box: (widths[box], self.pick(box, "gap pad flow spread"), wishes[box]) for box in order},
            {box: (self.pick(box, "gap pad tall stand"), self.lines[box][0], own[box]) for box in order},
        ]

    def pick(self, box, props):
        return [self.worth[box][prop] for prop in props.split()]

    def since(self, last):
        """The boxes of which something that goes in became another, five lists."""
        told = []
        for place, stage in enumerate(self.stages):
            before = last.stages[place] if last else {}
            told.append(sorted(box for box in stage if box not in before or before[box] != stage[box]))
        return told


class HouseCase(unittest.TestCase):
    def refused(self, error, house, deed, *told):
        with self.subTest(deed=deed, told=told):
            with self.assertRaises(HouseError) as taken:
                getattr(house, deed)(*told)
            self.assertIs(type(taken.exception), error)

    def unsettled(self, house):
        """All questions are refused with Unsettled, whatever they are asked of."""
        for box in (0, 1, 99, -1):
            for ask in ("spans_of", "natural_of", "counts_of", "height_of", "place_of"):
                self.refused(Unsettled, house, ask, box)
            for prop in ("size", "no"):
                self.refused(Unsettled, house, "value_of", box, prop)
                self.refused(Unsettled, house, "whence_of", box, prop)

    def settled(self, house):
        self.assertEqual(len(house.spans_of(0)), 0)


class StartTest(HouseCase):
    def test_unsettled_from_the_start(self):
        self.unsettled(House((5, 1)))

    def test_the_root_alone(self):
        house = House((5, 2))
        self.assertEqual(house.settle(), ([0],) * 6)
        self.assertEqual(house.settle(), EMPTY)
        for prop in PROPS:
            self.assertEqual(house.value_of(0, prop), start_of(prop))
            self.assertIsNone(house.whence_of(0, prop))
        self.assertEqual(house.place_of(0), ((0, 1), (0, 1), (5, 2), (0, 1)))
        self.assertEqual((house.spans_of(0), house.natural_of(0), house.counts_of(0)), ([], (0, 1), []))
        self.assertEqual(house.height_of(0), (0, 1))

    def test_the_roots_name(self):
        house = House((5, 1))
        house.add(rule(named("house"), row("ink", ("word", "red"))))
        house.settle()
        self.assertEqual(house.value_of(0, "ink"), ("word", "red"))

    def test_two_houses_side_by_side(self):
        one = House((5, 1))
        other = House((7, 1))
        self.assertEqual((one.put(0, 0, "a"), other.put(0, 0, "b")), (1, 1))
        one.settle()
        self.unsettled(other)
        one.add(rule(ANY, row("gap", number(3))))
        other.settle()
        self.assertEqual(other.value_of(0, "gap"), number(0))
        self.assertEqual(other.place_of(1)[2], (0, 1))


class DeedsTest(HouseCase):
    def test_answers(self):
        house = House((5, 1))
        self.assertEqual([house.put(0, 0, "a"), house.put(1, 0, "b"), house.put(0, 0, "c")], [1, 2, 3])
        self.assertIs(house.move(2, 0, 0), True)
        self.assertIs(house.move(2, 0, 0), False)
        self.assertIs(house.move(2, 1, 0), True)
        self.assertIs(house.mark(1, "x"), True)
        self.assertIs(house.mark(1, "x"), False)
        self.assertIs(house.bare(1, "x"), True)
        self.assertIs(house.bare(1, "x"), False)
        self.assertIs(house.write(2, ["w"]), True)
        self.assertIs(house.write(2, ["w"]), False)
        self.assertIs(house.dress(2, (row("size", number(2)),)), True)
        self.assertIs(house.dress(2, (row("size", number(2)),)), False)
        self.assertEqual(house.cut(1), [1, 2])
        self.assertEqual(house.put(0, 0, "d"), 4)
        first = rule(ANY)
        self.assertEqual([house.add(first), house.add(rule(ANY, row("gap", number(1))))], [0, 1])
        self.assertEqual(house.drop(0), first)
        self.assertEqual(house.add(first), 2)
        self.assertIs(house.window((5, 1)), False)
        self.assertIs(house.window((6, 1)), True)
        self.assertIs(house.window((6, 1)), False)
        self.assertIs(house.window((0, 1)), True)

    def test_unsettled_from_each_deed_on_that_changed_something(self):
        house = small()
        house.add(rule(named("no"), row("gap", number(1))))
        house.settle()
        self.settled(house)
        for deed, told in (
            ("put", (0, 0, "a")), ("cut", (7,)), ("cut", (6,)), ("move", (1, 0, 2)), ("mark", (1, "x")), ("bare", (1, "x")),
            ("write", (1, ["w"])), ("write", (1, [])), ("dress", (1, (row("gap", number(0)),))), ("dress", (1, ())),
            ("add", (rule(ANY),)), ("add", (rule(named("no"), row("gap", number(1))),)), ("drop", (1,)), ("drop", (0,)),
            ("window", ((3, 1),)),
        ):
            with self.subTest(deed=deed, told=told):
                getattr(house, deed)(*told)
                self.unsettled(house)
                house.settle()
                self.settled(house)

    def test_settled_behind_deeds_that_changed_nothing(self):
        house = small()
        for deed, told in (
            ("move", (1, 0, 0)), ("move", (6, 5, 0)), ("bare", (1, "x")), ("write", (1, [])), ("dress", (1, ())),
            ("window", ((20, 1),)),
        ):
            self.assertIs(getattr(house, deed)(*told), False)
            self.settled(house)
        self.assertEqual(house.settle(), EMPTY)

    def test_settled_behind_refused_deeds(self):
        house = small()
        wrong = row("size", ("word", "no"))
        for error, deed, told in (
            (NoBox, "put", (9, 0, "a")), (NoPlace, "put", (0, 9, "a")), (NoName, "put", (0, 0, "A")),
            (NoBox, "cut", (9,)), (Rooted, "cut", (0,)), (NoBox, "move", (9, 0, 0)), (NoBox, "move", (1, 9, 0)),
            (Rooted, "move", (0, 1, 0)), (Rooted, "move", (2, 6, 0)), (NoPlace, "move", (1, 0, 3)),
            (NoBox, "mark", (9, "x")), (NoName, "mark", (1, "X")), (NoBox, "bare", (9, "x")), (NoName, "bare", (1, "")),
            (NoBox, "write", (9, [])), (NoBox, "dress", (9, ())), (NoValue, "dress", (1, (wrong,))),
            (NoRule, "add", ((10, (ANY,), ()),)), (NoRule, "add", ((1, (), ()),)), (NoValue, "add", (rule(ANY, wrong),)),
            (NoRule, "drop", (0,)), (NoRule, "drop", (-1,)),
        ):
            self.refused(error, house, deed, *told)
            self.settled(house)
        self.assertEqual(house.settle(), EMPTY)
        self.assertEqual(house.put(0, 0, "a"), 7)
        self.assertEqual(house.add(rule(ANY)), 0)

    def test_order_of_refusals(self):
        house = small()
        wrong = row("size", ("word", "no"))
        self.refused(NoBox, house, "dress", 9, (wrong,))
        self.refused(NoBox, house, "dress", -GREAT, (wrong,))
        self.refused(NoBox, house, "put", 9, 9, "A")
        self.refused(NoPlace, house, "put", 0, 9, "A")
        self.refused(NoBox, house, "move", 0, 9, 9)
        self.refused(Rooted, house, "move", 2, 6, 9)
        self.refused(NoRule, house, "add", (10, (ANY,), (wrong,)))
        for turn in range(40):
            house.add(rule(ANY))
        self.refused(NoValue, house, "add", rule(ANY, wrong))
        self.refused(TooMuch, house, "add", rule(ANY))

    def test_dressing_in_rows_that_are_none(self):
        house = small()
        good = row("size", number(2))
        for wrong in (
            row("size", ("word", "no")), row("no", number(1)), row("flow", number(1)), row("gap", ("part", 1, 2), True),
            row("gap", ()), row("gap", number(1, 0)), row("ink", ("word", "hand")),
        ):
            for rows in ((wrong,), (good, wrong), (wrong, good)):
                self.refused(NoValue, house, "dress", 1, rows)
        self.assertIs(house.dress(1, (good,)), True)
        self.refused(NoValue, house, "dress", 1, (row("gap", ()),))
        house.settle()
        self.assertEqual(house.value_of(1, "size"), number(2))

    def test_too_many_and_too_deep(self):
        house = House((1, 1))
        for holder in range(12):
            house.put(holder, 0, "a")
        self.refused(TooMuch, house, "put", 12, 0, "a")
        for turn in range(77):
            house.put(0, 0, "a")
        self.refused(TooMuch, house, "put", 0, 0, "a")

    def test_lists_handed_in_and_told(self):
        house = small()
        words = ["one", "two"]
        house.write(1, words)
        words.append("three")
        told = house.settle()
        for some in told:
            some.append(5)
        self.assertEqual(house.spans_of(1), [(3, 1), (3, 1)])
        house.spans_of(1).clear()
        house.counts_of(0).clear()
        self.assertEqual((house.spans_of(1), house.counts_of(0)), ([(3, 1), (3, 1)], [1, 1, 1]))
        self.assertEqual(house.settle(), EMPTY)
        house.cut(2).clear()
        kept = house.settle()
        house.cut(3)
        house.settle()
        self.assertEqual(kept[0], [1, 3])


class QuestionsTest(HouseCase):
    def test_refusals_in_order(self):
        house = small()
        house.cut(6)
        house.settle()
        for box in (6, 7, 99, -1, GREAT, -GREAT):
            for ask in ("spans_of", "natural_of", "counts_of", "height_of", "place_of"):
                self.refused(NoBox, house, ask, box)
            for prop in ("size", "no"):
                self.refused(NoBox, house, "value_of", box, prop)
                self.refused(NoBox, house, "whence_of", box, prop)
        for prop in ("no", "", "Size", "size ", "hand", "number"):
            self.refused(NoValue, house, "value_of", 1, prop)
            self.refused(NoValue, house, "whence_of", 1, prop)
        self.settled(house)

    def test_whence(self):
        house = small()
        house.add(rule(named("a"), row("gap", number(1)), row("size", number(2))))
        house.add(rule(ANY, row("gap", number(3)), layer=0))
        house.dress(2, (row("pad", number(1)), row("gap", number(5))))
        house.settle()
        self.assertEqual(house.whence_of(1, "gap"), (0, 0))
        self.assertEqual(house.whence_of(1, "size"), (0, 1))
        self.assertEqual(house.whence_of(3, "gap"), (1, 0))
        self.assertEqual(house.whence_of(2, "gap"), (-1, 1))
        self.assertIsNone(house.whence_of(3, "size"))
        self.assertEqual(house.value_of(2, "gap"), number(5))
        house.drop(0)
        house.settle()
        self.assertEqual(house.whence_of(1, "gap"), (1, 0))
        self.assertIsNone(house.whence_of(1, "size"))

    def test_whence_where_the_value_stays(self):
        house = small()
        house.add(rule(ANY, row("gap", number(1))))
        house.settle()
        house.add(rule(ANY, row("gap", number(1))))
        self.assertEqual(house.settle(), ([0, 1, 2, 3, 4, 5, 6], [], [], [], [], []))
        self.assertEqual(house.whence_of(6, "gap"), (1, 0))

    def test_kept_values(self):
        house = small()
        house.dress(0, (row("size", number(4, 6)), row("ink", ("word", "red"))))
        house.dress(2, (row("size", ("times", 3, 2)), row("wide", ("part", 2, 4))))
        house.settle()
        self.assertEqual(house.value_of(0, "size"), number(2, 3))
        self.assertEqual(house.value_of(1, "size"), number(2, 3))
        self.assertEqual(house.value_of(6, "size"), number(1))
        self.assertEqual(house.value_of(6, "ink"), ("word", "red"))
        self.assertEqual(house.value_of(2, "wide"), ("part", 1, 2))

    def test_spans_naturals_counts_heights_places(self):
        house = House((10, 1))
        house.put(0, 0, "a")
        house.put(0, 1, "b")
        house.write(0, ["x", "xyz"])
        house.write(1, ["one", "twoo", "five"])
        house.dress(0, (row("flow", ("word", "row")), row("stand", ("word", "full"))))
        house.dress(1, (row("flow", ("word", "wrap")), row("gap", number(1)), row("wide", number(8))))
        house.dress(2, (row("grow", number(1)),))
        house.settle()
        self.assertEqual(house.spans_of(0), [(1, 1), (3, 1)])
        self.assertEqual(house.spans_of(1), [(3, 1), (4, 1), (4, 1)])
        self.assertEqual([house.natural_of(box) for box in (0, 1, 2)], [(8, 1), (8, 1), (0, 1)])
        self.assertEqual([house.counts_of(box) for box in (0, 1, 2)], [[2], [2, 1], []])
        self.assertEqual([house.height_of(box) for box in (0, 1, 2)], [(3, 1), (3, 1), (0, 1)])
        self.assertEqual(house.place_of(0), ((0, 1), (0, 1), (10, 1), (3, 1)))
        self.assertEqual(house.place_of(1), ((0, 1), (0, 1), (8, 1), (3, 1)))
        self.assertEqual(house.place_of(2), ((8, 1), (0, 1), (2, 1), (3, 1)))


class DoubtTest(HouseCase):
    def asked(self, house, due):
        self.assertEqual(house.settle()[ASKED], due)

    def test_put(self):
        house = small()
        house.put(2, 1, "a")
        self.asked(house, [4, 5, 6, 7])
        house.put(1, 0, "a")
        self.asked(house, [8])
        house.put(0, 3, "a")
        self.asked(house, [1, 2, 3, 4, 5, 6, 7, 8, 9])

    def test_cut(self):
        house = small()
        house.cut(4)
        self.asked(house, [5, 6])
        house.cut(6)
        self.asked(house, [])
        house.cut(3)
        self.asked(house, [1, 2, 5])

    def test_move(self):
        house = small()
        house.move(6, 1, 0)
        self.asked(house, [6])
        house.move(6, 2, 0)
        self.asked(house, [4, 5, 6])
        house.move(4, 2, 2)
        self.asked(house, [4, 5, 6])
        house.move(5, 0, 0)
        self.asked(house, [1, 2, 3, 4, 5, 6])
        house.put(1, 0, "a")
        house.put(3, 0, "a")
        house.settle()
        house.move(7, 3, 1)
        self.asked(house, [7, 8])

    def test_mark_and_bare(self):
        house = small()
        for box, due in ((1, [1, 2, 3, 4, 5, 6]), (2, [2, 3, 4, 5, 6]), (3, [3]), (4, [4, 5, 6]), (5, [5, 6]), (6, [6])):
            house.mark(box, "x")
            self.asked(house, due)
            house.bare(box, "x")
            self.asked(house, due)
        house.mark(0, "x")
        self.asked(house, [0, 1, 2, 3, 4, 5, 6])

    def test_dress_write_window(self):
        house = small()
        house.dress(2, (row("size", number(2)),))
        self.asked(house, [2])
        house.dress(2, ())
        self.asked(house, [2])
        house.write(2, ["w"])
        self.asked(house, [])
        house.window((3, 1))
        self.asked(house, [])

    def test_add_and_drop(self):
        house = small()
        house.add(rule((("", (("name", "b"),)), (" ", ())), row("gap", number(1))))
        self.asked(house, [4, 5, 6])
        house.add((1, (named("a"), named("f"), named("a")), ()))
        self.asked(house, [1, 6])
        house.add(rule(named("no"), row("gap", number(1))))
        self.asked(house, [])
        house.move(6, 1, 0)
        self.asked(house, [6])
        house.drop(0)
        self.asked(house, [4, 5])
        house.drop(2)
        self.asked(house, [])

    def test_as_the_tree_is_just_behind_the_deed(self):
        # The rule fits box 1 when it is added, and box 6 only later, by a deed that puts it in doubt itself.
        house = small()
        house.add(rule((("", (("mark", "x"),)),), row("gap", number(1))))
        self.asked(house, [])
        house.mark(6, "x")
        house.drop(0)
        house.bare(6, "x")
        self.asked(house, [6])
        house.mark(3, "x")
        self.asked(house, [3])
        house.add(rule((("", (("mark", "x"),)),), row("gap", number(1))))
        house.move(3, 0, 0)
        house.move(3, 2, 0)
        self.asked(house, [1, 2, 3, 4, 5, 6])

    def test_later_deeds_take_no_doubt_away(self):
        house = small()
        house.put(2, 0, "a")
        house.move(6, 0, 0)
        house.move(6, 5, 0)
        self.asked(house, [1, 2, 3, 4, 5, 6, 7])
        house.dress(1, (row("size", number(2)),))
        house.dress(1, ())
        self.assertEqual(house.settle(), ([1], [], [], [], [], []))

    def test_boxes_cut_out_since(self):
        house = small()
        house.mark(5, "x")
        house.cut(5)
        self.asked(house, [4])
        house.put(1, 0, "a")
        house.put(7, 0, "b")
        house.cut(1)
        self.assertEqual(house.settle()[:3], ([2, 3, 4], [], []))

    def test_deeds_that_change_nothing_put_nothing_in_doubt(self):
        house = small()
        house.move(2, 0, 1)
        house.bare(1, "x")
        house.dress(1, ())
        self.refused(NoPlace, house, "put", 2, 9, "a")
        self.refused(NoRule, house, "add", (10, (ANY,), ()))
        self.assertEqual(house.settle(), EMPTY)

    def test_the_root_at_first(self):
        house = House((1, 1))
        house.put(0, 0, "a")
        self.asked(house, [0, 1])
        house.mark(1, "x")
        self.asked(house, [1])


class SettleTest(HouseCase):
    def test_form(self):
        told = House((1, 1)).settle()
        self.assertIs(type(told), tuple)
        self.assertEqual([type(some) for some in told], [list] * 6)

    def test_valued(self):
        house = small()
        house.dress(2, (row("ink", ("word", "red")),))
        self.assertEqual(house.settle(), ([2], [2, 4, 5, 6], [], [], [], []))
        house.dress(2, (row("ink", ("word", "red"), True),))
        self.assertEqual(house.settle(), ([2], [], [], [], [], []))
        house.dress(5, (row("ink", ("hand",)),))
        self.assertEqual(house.settle(), ([5], [], [], [], [], []))
        house.dress(5, (row("ink", ("word", "red")),))
        self.assertEqual(house.settle(), ([5], [5], [], [], [], []))

    def test_one_number_written_in_two_ways(self):
        house = small()
        house.dress(2, (row("gap", number(1, 2)),))
        house.settle()
        house.dress(2, (row("gap", number(2, 4)),))
        self.assertEqual(house.settle(), ([2], [2], [], [], [], []))
        self.assertEqual(house.value_of(2, "gap"), number(1, 2))

    def test_holders_values_go_into_valued(self):
        house = small()
        # Box 2's own width goes into what holds it, not into what it holds.
        house.dress(2, (row("shrink", number(5)),))
        self.assertEqual(house.settle(), ([2], [2, 4, 5], [], [], [0], []))
        house.move(6, 4, 0)
        self.assertEqual(house.settle()[:2], ([6], []))
        house.move(6, 2, 0)
        self.assertEqual(house.settle()[:2], ([4, 5, 6], [6]))

    def test_measured(self):
        house = small()
        house.write(4, ["ab"])
        self.assertEqual(house.settle(), ([], [], [4], [0, 2, 4], [0, 2, 4], [0, 2, 4]))
        house.write(4, ["cd"])
        self.assertEqual(house.settle(), ([], [], [4], [], [], []))
        house.write(2, ["held"])
        self.assertEqual(house.settle(), ([], [], [2], [], [], []))
        house.dress(2, (row("size", number(2)),))
        told = house.settle()
        self.assertEqual(told[MEASURED], [2, 4, 5, 6])

    def test_sized(self):
        house = small()
        house.dress(4, (row("wide", number(7)),))
        self.assertEqual(house.settle(), ([4], [4], [], [0, 2, 4], [0, 2, 4], []))
        house.dress(4, (row("wide", number(7)), row("least", number(3))))
        self.assertEqual(house.settle(), ([4], [4], [], [4], [2], []))
        house.dress(4, (row("wide", number(7)), row("least", number(3)), row("tall", number(3))))
        self.assertEqual(house.settle(), ([4], [4], [], [], [], [0, 2, 4]))

    def test_rowed(self):
        house = small()
        house.window((30, 1))
        self.assertEqual(house.settle(), ([], [], [], [], [0], []))
        house.dress(0, (row("spread", ("word", "right")),))
        self.assertEqual(house.settle(), ([0], [0, 1, 2, 3], [], [], [0], []))
        house.dress(1, (row("grow", number(1)),))
        self.assertEqual(house.settle(), ([1], [1], [], [], [0, 1], []))
        house.window((31, 1))
        self.assertEqual(house.settle(), ([], [], [], [], [0, 1], []))
        house.dress(2, (row("stand", ("word", "full")),))
        self.assertEqual(house.settle(), ([2], [2, 4, 5], [], [], [], [2]))

    def test_raised(self):
        house = House((8, 1))
        house.put(0, 0, "a")
        house.write(1, ["aaaa", "bbbb", "cc"])
        house.dress(1, (row("flow", ("word", "wrap")), row("grow", number(1))))
        house.settle()
        self.assertEqual((house.counts_of(1), house.height_of(1)), ([2, 1], (2, 1)))
        house.window((9, 1))
        self.assertEqual(house.settle(), ([], [], [], [], [0, 1], []))
        house.window((10, 1))
        self.assertEqual(house.settle(), ([], [], [], [], [0, 1], [0, 1]))
        self.assertEqual((house.counts_of(1), house.height_of(1)), ([3], (1, 1)))
        house.dress(0, (row("tall", number(9)),))
        self.assertEqual(house.settle(), ([0], [0, 1], [], [], [], [0]))

    def test_new_boxes_are_in_all_lists(self):
        house = small()
        house.put(1, 0, "a")
        told = house.settle()
        for some in told:
            self.assertIn(7, some)
        self.assertEqual(told[VALUED:SIZED], ([7], [7]))

    def test_an_equal_child_in_the_place_of_another(self):
        house = small()
        house.put(3, 0, "a")
        house.settle()
        house.cut(7)
        house.put(3, 0, "a")
        self.assertEqual(house.settle(), ([8],) * 6)

    def test_words_take_the_place_of_boxes(self):
        house = House((10, 1))
        house.put(0, 0, "a")
        house.put(1, 0, "b")
        house.write(1, ["ab"])
        house.dress(2, (row("wide", number(2)), row("tall", number(1))))
        house.settle()
        house.cut(2)
        # The width and the height of the one thing stay the same, its wishes don't.
        self.assertEqual(house.settle(), ([], [], [], [], [1], []))

    def test_a_change_and_back(self):
        house = small()
        house.window((7, 1))
        house.window((20, 1))
        house.write(1, ["w"])
        house.write(1, [])
        house.move(1, 2, 0)
        house.move(1, 0, 0)
        self.assertEqual(house.settle(), ([1, 2, 3, 4, 5, 6], [], [], [], [], []))

    def test_no_deed(self):
        house = small()
        for turn in range(3):
            self.assertEqual(house.settle(), EMPTY)


class MeasureTest(HouseCase):
    def setUp(self):
        self.asked = []

    def measure(self, word, size):
        self.asked.append((word, size))
        return (2 * len(word), 2)

    def told(self):
        found = self.asked
        self.asked = []
        return found

    def test_in_the_trees_order_of_all_boxes(self):
        house = House((9, 1), self.measure)
        house.put(0, 0, "a")
        house.put(0, 0, "b")
        house.put(2, 0, "c")
        for box, words in ((0, ["zero"]), (1, ["x", "y", "x"]), (2, ["two"]), (3, ["x"])):
            house.write(box, words)
        self.assertEqual(self.told(), [])
        house.settle()
        one = (1, 1)
        self.assertEqual(self.told(), [("zero", one), ("two", one), ("x", one), ("x", one), ("y", one), ("x", one)])
        self.assertEqual(house.spans_of(1), [one] * 3)
        self.assertEqual(house.natural_of(0), (1, 1))
        house.settle()
        house.window((5, 1))
        house.settle()
        self.assertEqual(self.told(), [])
        house.dress(2, (row("size", number(1, 2)),))
        self.assertEqual(self.told(), [])
        house.settle()
        self.assertEqual(self.told(), [("two", (1, 2)), ("x", (1, 2))])
        house.write(1, ["y", "x"])
        house.settle()
        self.assertEqual(self.told(), [("y", one), ("x", one)])
        house.move(1, 0, 0)
        house.settle()
        for box in range(4):
            house.spans_of(box)
            house.place_of(box)
            house.natural_of(box)
        self.assertEqual(self.told(), [])
        house.cut(1)
        house.put(0, 0, "d")
        house.settle()
        self.assertEqual(self.told(), [])


class LongRowsTest(HouseCase):
    """Behind long rows of deeds a settled house tells what reckoning anew tells."""

    def deed(self, chance, house, tree, sheet):
        """One deed, done to the house and to a tree and a sheet beside it; the boxes in doubt by it."""
        boxes = order_of(tree)
        box = chance.choice(boxes)
        holder = chance.choice(boxes)
        pick = chance.randrange(16)
        if pick < 4:
            told = ("put", holder, chance.randrange(len(tree.boxes_of(holder)) + 1), chance.choice(NAMES))
        elif pick < 5:
            told = ("cut", box)
        elif pick < 8:
            told = ("move", box, holder, chance.randrange(3))
        elif pick < 11:
            told = (chance.choice(("mark", "bare")), box, chance.choice(MARKS))
        elif pick < 13:
            told = ("write", box, ["w" * chance.randrange(1, 5) for turn in range(chance.randrange(0, 4))])
        elif pick < 14:
            prop = chance.choice(PROPS)
            told = ("dress", box, (row(prop, value_by(chance, prop), chance.random() < 0.2),))
        elif pick < 15 or not sheet.numbers():
            rows = tuple(row(prop, value_by(chance, prop), chance.random() < 0.2) for prop in chance.sample(PROPS, 3))
            patterns = tuple(pattern_by(chance, 3) for turn in range(chance.randrange(1, 3)))
            told = ("add", (chance.randrange(10), patterns, rows))
        else:
            told = ("drop", chance.choice(sheet.numbers()))
        return self.both(house, tree, sheet, told)

    def both(self, house, tree, sheet, told):
        side = sheet if told[0] in ("add", "drop") else tree
        former = tree.holder_of(told[1]) if told[0] in ("cut", "move") else None
        answers = []
        for one in (side, house):
            try:
                answers.append(getattr(one, told[0])(*told[1:]))
            except HouseError as error:
                answers.append(type(error))
        self.assertEqual(answers[0], answers[1])
        if answers[0] is False or isinstance(answers[0], type):
            return []
        return self.doubted(tree, told, former, answers[0])

    def doubted(self, tree, told, former, answer):
        def under(box):
            return order_of(tree, box)[1:]

        deed = told[0]
        if deed == "put":
            return under(told[1])
        if deed == "cut":
            return under(former)
        if deed == "move":
            return under(former) + under(told[2])
        if deed in ("mark", "bare"):
            found = order_of(tree, told[1])
            seen = False
            for one in tree.boxes_of(tree.holder_of(told[1])) if told[1] else []:
                if seen:
                    found.extend(order_of(tree, one))
                seen = seen or one == told[1]
            return found
        if deed == "dress":
            return [told[1]]
        if deed in ("add", "drop"):
            patterns = told[1][1] if deed == "add" else answer[1]
            return [box for box in order_of(tree) if any(fits(tree, pattern, box) for pattern in patterns)]
        return []

    def agree(self, house, tree, now, width):
        for box in order_of(tree):
            for prop in PROPS:
                self.assertEqual(house.value_of(box, prop), now.worth[box][prop])
                winner = now.whence[box][prop]
                self.assertEqual(house.whence_of(box, prop), None if winner is None else winner[:2])
            self.assertEqual(house.spans_of(box), now.spans[box])
            self.assertEqual(house.natural_of(box), now.natural[box])
            self.assertEqual(house.counts_of(box), now.lines[box][0])
            self.assertEqual(house.height_of(box), now.heights[box])
            self.assertEqual(house.place_of(box), now.places[box])

    def run_through(self, seed, turns, measure):
        chance = Random(seed)
        width = (chance.randrange(0, 40), 1)
        asked = []

        def house_measure(word, size):
            asked.append((word, size))
            return measure(word, size)

        house = House(width, measure and house_measure)
        tree = Tree("house")
        sheet = Sheet()
        last = None
        for turn in range(turns):
            doubts = {0: True} if last is None else {}
            for again in range(chance.choice((0, 1, 1, 2, 6))):
                for box in self.deed(chance, house, tree, sheet):
                    doubts[box] = True
            if chance.random() < 0.2:
                other = (chance.randrange(0, 40), 1)
                self.assertIs(house.window(other), other != width)
                width = other
            now = Inputs(tree, sheet, width, measure)
            asked.clear()
            told = house.settle()
            due = [sorted(box for box in doubts if tree.stands(box))] + now.since(last)
            self.assertEqual(list(told), due)
            if measure:
                self.assertEqual(asked, [
                    (word, now.worth[box]["size"][1:])
                    for box in order_of(tree) if box in told[MEASURED] for word in tree.words_of(box)
                ])
            self.agree(house, tree, now, width)
            last = now

    def test_without_a_measure(self):
        for seed in range(8):
            self.run_through(seed, 30, None)

    def test_with_a_measure(self):
        for seed in range(8, 12):
            self.run_through(seed, 30, lambda word, size: (len(word) * size[0] * 2 + 6, size[1] * 4))


if __name__ == "__main__":
    unittest.main()
