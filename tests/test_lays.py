"""Points 27 to 31, with point 2: laying one box and its things."""

import unittest
from fractions import Fraction
from random import Random

from helper import exact, tuple_of
from stylehouse.deal import dealt
from stylehouse.flows import flow_of
from stylehouse.lays import lined, natural_of, raised, room_of, spans_of, wishes_of, word_wishes
from stylehouse.props import PROPS, start_of

HALF = Fraction(1, 2)


def number(one):
    one = Fraction(one)
    return ("number", one.numerator, one.denominator)


def part(one):
    one = Fraction(one)
    return ("part", one.numerator, one.denominator)


def keeping(**some):
    """Kept values: the starts, but those handed in, where a text tells a word and a number a number."""
    kept = {prop: start_of(prop) for prop in PROPS}
    for prop, told in some.items():
        if isinstance(told, str):
            kept[prop] = ("word", told)
        else:
            kept[prop] = told if isinstance(told, tuple) else number(told)
    return kept


def fractions(some):
    return [tuple_of(one) for one in some]


def wish(natural, **some):
    return wishes_of(keeping(**some), tuple_of(natural))


class LaysCase(unittest.TestCase):
    def lines(self, values, width, wishes, counts, widths, xs):
        told = lined(values, tuple_of(width), wishes)
        self.assertIs(type(told), tuple)
        self.assertEqual(told, (counts, fractions(widths), fractions(xs)))

    def rises(self, values, counts, heights, height, ys, talls):
        told = raised(values, counts, fractions(heights))
        self.assertIs(type(told), tuple)
        self.assertEqual(told, (tuple_of(height), fractions(ys), fractions(talls)))


class SpansTest(LaysCase):
    def test_without_a_measure(self):
        self.assertEqual(spans_of([], (3, 2)), [])
        self.assertEqual(spans_of(["a", "abc", "a"], (3, 2)), [(3, 2), (9, 2), (3, 2)])
        self.assertEqual(spans_of(["ab", "abcd"], (1, 4), None), [(1, 2), (1, 1)])
        self.assertEqual(spans_of(["ab"], (0, 1)), [(0, 1)])
        self.assertEqual(spans_of(["x" * 30], (7, 1)), [(210, 1)])

    def test_with_a_measure(self):
        asked = []

        def measure(word, size):
            asked.append((word, size))
            return (len(asked) * 6, 4)

        self.assertEqual(spans_of(["b", "a", "b"], (3, 2), measure), [(3, 2), (3, 1), (9, 2)])
        self.assertEqual(asked, [("b", (3, 2)), ("a", (3, 2)), ("b", (3, 2))])

    def test_lowest_terms(self):
        big = 10 ** 499
        self.assertEqual(spans_of(["a"], (1, 1), lambda word, size: (0, 9)), [(0, 1)])
        self.assertEqual(spans_of(["a"], (1, 1), lambda word, size: (4 * big, 6 * big)), [(2, 3)])
        self.assertEqual(spans_of(["a"], (1, 1), lambda word, size: (big + 1, big)), [(big + 1, big)])

    def test_the_measure_is_not_asked_without_words(self):
        self.assertEqual(spans_of([], (1, 1), lambda word, size: self.fail("asked")), [])

    def test_words_are_not_changed(self):
        words = ["b", "a"]
        told = spans_of(words, (1, 1))
        told.clear()
        self.assertEqual(words, ["b", "a"])


class NaturalTest(LaysCase):
    def natural(self, values, widths, due):
        handed = fractions(widths)
        before = dict(values)
        self.assertEqual(natural_of(values, handed), tuple_of(due))
        self.assertEqual((handed, values), (fractions(widths), before))

    def test_breadth_and_pads(self):
        for flow in ("row", "wrap", "fair"):
            self.natural(keeping(flow=flow, gap=2, pad=HALF), [1, 5, 3], 14)
            self.natural(keeping(flow=flow, gap=2, pad=HALF), [5], 6)
        self.natural(keeping(gap=2, pad=HALF), [1, 5, 3], 6)
        for flow in ("stack", "row", "wrap", "fair"):
            self.natural(keeping(flow=flow, gap=2, pad=3), [], 6)

    def test_wide(self):
        self.natural(keeping(wide=4, pad=HALF), [1, 5, 3], 4)
        self.natural(keeping(wide=0, pad=9), [1, 5, 3], 0)
        self.natural(keeping(wide=part(HALF), pad=HALF), [1, 5, 3], 6)
        self.natural(keeping(wide="auto", pad=HALF), [1, 5, 3], 6)

    def test_held_between_least_and_most(self):
        self.natural(keeping(least=7), [5], 7)
        self.natural(keeping(most=3), [5], 3)
        self.natural(keeping(least=7, most=3), [5], 7)
        self.natural(keeping(least=2, most=9), [5], 5)
        self.natural(keeping(wide=8, most=3), [5], 3)
        self.natural(keeping(wide=1, least=3), [5], 3)
        self.natural(keeping(least=part(9), most=part(0)), [5], 5)
        self.natural(keeping(least=part(9), most=3), [5], 3)
        self.natural(keeping(least=7, most=part(0)), [5], 7)
        self.natural(keeping(most=0, pad=4), [5], 0)
        self.natural(keeping(least=part(9)), [], 0)
        self.natural(keeping(least=part(9)), [Fraction(1, 3)], Fraction(1, 3))


class RoomTest(LaysCase):
    def test_edges(self):
        self.assertEqual(room_of(keeping(), (5, 1)), ((0, 1), (5, 1)))
        self.assertEqual(room_of(keeping(pad=1), (5, 1)), ((1, 1), (3, 1)))
        self.assertEqual(room_of(keeping(pad=Fraction(5, 2)), (5, 1)), ((5, 2), (0, 1)))
        self.assertEqual(room_of(keeping(pad=3), (5, 1)), ((5, 2), (0, 1)))
        self.assertEqual(room_of(keeping(pad=100), (0, 1)), ((0, 1), (0, 1)))
        self.assertEqual(room_of(keeping(pad=Fraction(1, 3)), (1, 1)), ((1, 3), (1, 3)))

    def test_values_stay(self):
        values = keeping(pad=3)
        room_of(values, (5, 1))
        self.assertEqual(values, keeping(pad=3))


class WishesTest(LaysCase):
    def test_of_boxes(self):
        values = keeping(wide=part(HALF), least=3, most=part(2), grow=Fraction(1, 3), shrink=0)
        self.assertEqual(
            wishes_of(values, (7, 2)),
            (("part", 1, 2), ("number", 3, 1), ("part", 2, 1), ("number", 1, 3), ("number", 0, 1), (7, 2)),
        )
        self.assertEqual(
            wishes_of(keeping(), (0, 1)),
            (("word", "auto"), ("number", 0, 1), ("word", "none"), ("number", 0, 1), ("number", 1, 1), (0, 1)),
        )

    def test_of_words(self):
        self.assertEqual(
            word_wishes((7, 2)),
            (("number", 7, 2), ("number", 0, 1), ("word", "none"), ("number", 0, 1), ("number", 0, 1), (7, 2)),
        )


class LinedTest(LaysCase):
    def test_nothing(self):
        for flow in ("stack", "row", "wrap", "fair"):
            for spread in ("left", "middle", "right", "apart"):
                self.lines(keeping(flow=flow, spread=spread, pad=3, gap=1), 5, [], [], [], [])

    def test_bases(self):
        values = keeping(pad=1)
        for given, due in (
            (wish(3), 3), (wish(3, wide=5), 5), (wish(3, wide=part(HALF)), 4), (wish(3, wide=part(0)), 0),
            (wish(3, least=4), 4), (wish(3, least=part(HALF)), 4), (wish(3, most=2), 2),
            (wish(3, most=part(Fraction(1, 4))), 2), (wish(3, least=part(1), most=part(HALF)), 8),
            (wish(3, wide=5, most=4), 4), (wish(3, wide=part(1), most=7), 7), (wish(30, shrink=0), 30),
            (wish(30), 8), (wish(3, grow=1), 8), (wish(3, grow=1, most=part(HALF)), 4), (wish(30, least=9), 9),
            (word_wishes((3, 1)), 3), (word_wishes((30, 1)), 30),
        ):
            with self.subTest(given=given):
                self.lines(values, 10, [given], [1], [due], [1])

    def test_flows(self):
        things = [wish(3) for turn in range(4)]
        self.lines(keeping(), 7, things, [1, 1, 1, 1], [3] * 4, [0] * 4)
        self.lines(keeping(flow="row", gap=1), 15, things, [4], [3] * 4, [0, 4, 8, 12])
        self.lines(keeping(flow="wrap", gap=1), 11, things, [3, 1], [3] * 4, [0, 4, 8, 0])
        self.lines(keeping(flow="fair", gap=1), 11, things, [3, 1], [3] * 4, [0, 4, 8, 0])

    def test_lines_are_broken_by_what_is_held(self):
        things = [wish(9, most=3, grow=1), wish(0, least=3), wish(1)]
        self.lines(keeping(flow="wrap"), 6, things, [2, 1], [3, 3, 1], [0, 3, 0])

    def test_each_line_is_dealt_by_itself(self):
        things = [wish(3, grow=1), wish(3, grow=1), wish(3, grow=1)]
        self.lines(keeping(flow="wrap", gap=1), 9, things, [2, 1], [4, 4, 9], [0, 5, 0])
        self.lines(keeping(flow="row", gap=1), 5, things, [3], [1, 1, 1], [0, 2, 4])

    def test_spreads_of_one_thing(self):
        for spread, due in (("left", 1), ("middle", 3), ("right", 5), ("apart", 1)):
            self.lines(keeping(spread=spread, pad=1), 10, [wish(4)], [1], [4], [due])

    def test_spreads_of_several(self):
        things = [wish(1), wish(2), wish(3)]
        for spread, due in (
            ("left", (1, 3, 6)), ("middle", (4, 6, 9)), ("right", (7, 9, 12)), ("apart", (1, 6, 12)),
        ):
            self.lines(keeping(flow="row", gap=1, spread=spread, pad=1), 16, things, [3], [1, 2, 3], due)

    def test_spreads_line_by_line(self):
        things = [wish(2), wish(2), wish(2)]
        for spread, due in (
            ("left", (0, 3, 0)), ("middle", (HALF, HALF + 3, 2)), ("right", (1, 4, 4)), ("apart", (0, 4, 0)),
        ):
            self.lines(keeping(flow="wrap", gap=1, spread=spread), 6, things, [2, 1], [2, 2, 2], due)

    def test_lines_that_come_to_more_than_their_room(self):
        things = [wish(4, shrink=0), wish(4, shrink=0)]
        for spread in ("left", "middle", "right", "apart"):
            self.lines(keeping(flow="row", gap=1, spread=spread, pad=1), 6, things, [2], [4, 4], [1, 6])
            self.lines(keeping(flow="row", gap=9, spread=spread), 5, [wish(1), wish(1)], [2], [0, 0], [0, 9])

    def test_a_pad_of_more_than_half_the_width(self):
        self.lines(keeping(pad=9), 6, [wish(4, shrink=0)], [1], [4], [3])
        self.lines(keeping(pad=9, spread="right"), 6, [wish(4)], [1], [0], [3])

    def test_a_width_of_nought(self):
        self.lines(keeping(flow="wrap", pad=9), 0, [wish(4), wish(0)], [1, 1], [0, 0], [0, 0])

    def test_nothing_handed_in_is_changed(self):
        values = keeping(flow="row", gap=1)
        things = [wish(4), wish(4)]
        told = lined(values, (9, 1), things)
        for some in told:
            some.clear()
        self.assertEqual(values, keeping(flow="row", gap=1))
        self.assertEqual(things, [wish(4), wish(4)])
        self.lines(values, 9, things, [2], [4, 4], [0, 5])


class RaisedTest(LaysCase):
    def test_nothing(self):
        self.rises(keeping(), [], [], 0, [], [])
        self.rises(keeping(pad=2, gap=7), [], [], 4, [], [])
        self.rises(keeping(pad=2, tall=9), [], [], 9, [], [])
        self.rises(keeping(pad=2, tall=3), [], [], 4, [], [])

    def test_lines_one_beneath_another(self):
        self.rises(keeping(), [1, 1], [2, 3], 5, [0, 2], [2, 3])
        self.rises(keeping(pad=1, gap=HALF), [1, 1, 1], [2, 3, 4], 12, [1, Fraction(7, 2), 7], [2, 3, 4])
        self.rises(keeping(pad=1, gap=2), [2, 1], [2, 5, 4], 13, [1, 1, 8], [2, 5, 4])

    def test_lines_lower_than_one(self):
        third = Fraction(1, 3)
        self.rises(keeping(stand="bottom"), [2, 1], [third, HALF, 0], HALF, [Fraction(1, 6), 0, HALF], [third, HALF, 0])
        self.rises(keeping(stand="full"), [1, 1], [0, third], third, [0, 0], [0, third])

    def test_tall(self):
        for tall, due in ((0, 7), (7, 7), (Fraction(29, 4), Fraction(29, 4)), (100, 100)):
            self.rises(keeping(pad=1, tall=tall), [1, 1], [2, 3], due, [1, 3], [2, 3])

    def test_stands(self):
        heights = [2, 5, 3]
        for stand, ys, talls in (
            ("top", (1, 1, 1), heights), ("middle", (Fraction(5, 2), 1, 2), heights),
            ("bottom", (4, 1, 3), heights), ("full", (1, 1, 1), (5, 5, 5)),
        ):
            self.rises(keeping(flow="row", pad=1, stand=stand), [3], heights, 7, ys, talls)

    def test_stands_line_by_line(self):
        heights = [2, 4, 6, 1]
        for stand, ys, talls in (
            ("top", (0, 0, 5, 5), heights), ("middle", (1, 0, 5, Fraction(15, 2)), heights),
            ("bottom", (2, 0, 5, 10), heights), ("full", (0, 0, 5, 5), (4, 4, 6, 6)),
        ):
            self.rises(keeping(gap=1, stand=stand), [2, 2], heights, 11, ys, talls)

    def test_tall_does_not_move_the_lines(self):
        for stand in ("top", "middle", "bottom", "full"):
            self.rises(keeping(tall=50, stand=stand), [1], [2], 50, [0], [2])

    def test_nothing_handed_in_is_changed(self):
        values = keeping(stand="full")
        counts = [2]
        heights = [(1, 1), (2, 1)]
        told = raised(values, counts, heights)
        told[1].clear()
        told[2].clear()
        self.assertEqual((values, counts, heights), (keeping(stand="full"), [2], [(1, 1), (2, 1)]))


class ChanceTest(LaysCase):
    def base(self, wished, room):
        def side(value, other):
            if value[0] == "word":
                return other
            return Fraction(value[1], value[2]) * (room if value[0] == "part" else 1)

        return (
            side(wished[0], exact(wished[5])), side(wished[1], None), side(wished[2], None), exact(wished[3][1:]),
            exact(wished[4][1:]),
        )

    def thing(self, chance):
        def one():
            return Fraction(chance.randrange(0, 8), chance.randrange(1, 4))

        some = {"grow": chance.choice((0, one())), "shrink": chance.choice((0, one()))}
        for prop in ("wide", "least", "most"):
            if chance.random() < 0.3:
                some[prop] = chance.choice((number(one()), part(one() / 8)))
        return wish(one(), **some)

    def test_by_chance(self):
        chance = Random(30)
        for turn in range(500):
            values = keeping(
                flow=chance.choice(("stack", "row", "wrap", "fair")), gap=Fraction(chance.randrange(3), 2),
                pad=Fraction(chance.randrange(5), 2), spread=chance.choice(("left", "middle", "right", "apart")),
            )
            width = Fraction(chance.randrange(0, 40), 2)
            things = [self.thing(chance) for place in range(chance.randrange(0, 6))]
            counts, widths, xs = lined(values, tuple_of(width), things)
            edge = min(exact(values["pad"][1:]), width / 2)
            room = width - 2 * edge
            gap = exact(values["gap"][1:])
            items = [self.base(one, room) for one in things]
            begins = [
                max(one[0], one[1]) if one[2] is None else min(max(one[0], one[1]), max(one[1], one[2])) for one in items
            ]
            due = flow_of(values["flow"][1]).counts(fractions(begins), tuple_of(gap), tuple_of(room))
            self.assertEqual(counts, due)
            place = 0
            for count in counts:
                told = [tuple(None if one is None else tuple_of(one) for one in each) for each in items[place:place + count]]
                line = dealt(told, tuple_of(room - gap * (count - 1)))[0]
                self.assertEqual(widths[place:place + count], line)
                self.spread(values["spread"][1], [exact(one) for one in line], xs[place:place + count], gap, edge, room)
                place += count
            self.assertEqual((len(widths), len(xs)), (place, place))

    def spread(self, spread, line, xs, gap, edge, room):
        """Each spread by where the ends and the gaps of the line are."""
        xs = [exact(x) for x in xs]
        left = max(0, room - sum(line) - gap * (len(line) - 1))
        begin = xs[0] - edge
        gaps = [xs[place + 1] - xs[place] - line[place] for place in range(len(line) - 1)]
        if spread == "apart" and len(line) > 1:
            self.assertEqual((begin, gaps), (0, [gap + left / (len(line) - 1)] * len(gaps)))
        else:
            self.assertEqual(gaps, [gap] * len(gaps))
            self.assertEqual(begin, {"left": 0, "apart": 0, "middle": left / 2, "right": left}[spread])


if __name__ == "__main__":
    unittest.main()
