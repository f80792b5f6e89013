"""Points 22 to 24, with point 2: flows, prices and breadths."""

import unittest
from fractions import Fraction
from random import Random

from helper import exact, tuple_of
from stylehouse.flows import Flow, flow_of, prices_of

WORDS = ("stack", "row", "wrap", "fair")


def whole(some):
    return [(one, 1) for one in some]


def all_ways(length):
    """Every way to break so many things into lines."""
    if length == 0:
        return [[]]
    return [[first] + rest for first in range(1, length + 1) for rest in all_ways(length - first)]


def span(widths, gap):
    return sum(widths) + gap * (len(widths) - 1)


def way_cost(widths, gap, room, way):
    """The sum of costs but the last line's; None where a line doesn't fit."""
    cost = Fraction(0)
    place = 0
    for turn, count in enumerate(way):
        line = widths[place:place + count]
        left = room - span(line, gap)
        if left < 0 and count > 1:
            return None
        if turn < len(way) - 1:
            cost += max(left, 0) ** 2
        place += count
    return cost


def best_way(widths, gap, room):
    """The cheapest way and its cost, by trying them all."""
    ways = [(way_cost(widths, gap, room, way), [-count for count in way]) for way in all_ways(len(widths))]
    cost, way = min(one for one in ways if one[0] is not None)
    return [-count for count in way], cost


class FlowCase(unittest.TestCase):
    def counts(self, word, widths, gap, room, due):
        handed = list(widths)
        with self.subTest(word=word, widths=widths, gap=gap, room=room):
            told = flow_of(word).counts(handed, gap, room)
            self.assertIs(type(told), list)
            self.assertEqual(told, due)
            self.assertEqual(handed, widths)


class CountsTest(FlowCase):
    def test_nothing(self):
        for word in WORDS:
            self.assertIsInstance(flow_of(word), Flow)
            for room in ((5, 1), (0, 1), (-5, 1)):
                self.counts(word, [], (1, 1), room, [])

    def test_one_thing(self):
        for word in WORDS:
            for room in ((9, 1), (5, 1), (4, 1), (0, 1), (-3, 2)):
                self.counts(word, [(5, 1)], (1, 1), room, [1])

    def test_stack_and_row(self):
        for room in ((100, 1), (3, 1), (0, 1), (-1, 1)):
            self.counts("stack", whole([1, 2, 3]), (1, 1), room, [1, 1, 1])
            self.counts("row", whole([1, 2, 3]), (1, 1), room, [3])

    def test_wrap(self):
        self.counts("wrap", whole([3, 3, 3, 3]), (1, 1), (7, 1), [2, 2])
        self.counts("wrap", whole([3, 3, 3, 3]), (1, 1), (27, 4), [1, 1, 1, 1])
        self.counts("wrap", whole([3, 3, 3, 3]), (1, 1), (11, 1), [3, 1])
        self.counts("wrap", whole([3, 3, 3, 3]), (1, 1), (15, 1), [4])
        self.counts("wrap", whole([9, 1, 1, 9, 1]), (1, 1), (3, 1), [1, 2, 1, 1])
        self.counts("wrap", whole([1, 9, 1]), (0, 1), (10, 1), [2, 1])
        self.counts("wrap", [(1, 3), (1, 3), (1, 3), (1, 3)], (0, 1), (1, 1), [3, 1])
        self.counts("wrap", [(1, 3), (1, 3), (1, 3)], (1, 10 ** 30), (1, 1), [2, 1])

    def test_rooms_of_nought_and_below(self):
        for word in ("wrap", "fair"):
            self.counts(word, whole([1, 2, 3]), (0, 1), (0, 1), [1, 1, 1])
            self.counts(word, whole([0, 0, 0]), (0, 1), (0, 1), [3])
            self.counts(word, whole([0, 0, 0]), (1, 5), (0, 1), [1, 1, 1])
            self.counts(word, whole([0, 0, 0]), (0, 1), (-1, 9), [1, 1, 1])
            self.counts(word, whole([0, 0, 2, 0, 0]), (0, 1), (0, 1), [2, 1, 2])

    def test_fair(self):
        self.counts("wrap", whole([5, 1, 5, 5]), (1, 1), (13, 1), [3, 1])
        self.counts("fair", whole([5, 1, 5, 5]), (1, 1), (13, 1), [3, 1])
        self.counts("wrap", whole([3, 2, 2, 5]), (0, 1), (6, 1), [2, 1, 1])
        # 9 and 4 are less than 1 and 16.
        self.counts("fair", whole([3, 2, 2, 5]), (0, 1), (6, 1), [1, 2, 1])

    def test_the_last_line_costs_nothing(self):
        self.counts("fair", whole([4, 4, 1]), (0, 1), (8, 1), [2, 1])
        self.counts("fair", whole([1, 1, 1]), (0, 1), (9, 1), [3])
        self.counts("fair", whole([1, 9]), (0, 1), (9, 1), [1, 1])

    def test_several_ways_cost_the_same(self):
        # Either of the first two lines may have two things: 2 + 1 and 1 + 2 leave the same.
        self.counts("fair", whole([1, 1, 1, 2]), (0, 1), (2, 1), [2, 1, 1])
        # Lines that are too long cost nothing, and so do things that fill the room.
        self.counts("fair", whole([5, 5, 5, 5]), (0, 1), (5, 1), [1, 1, 1, 1])
        self.counts("fair", whole([0, 5, 0, 5, 0]), (0, 1), (5, 1), [3, 2])
        self.counts("fair", whole([9, 0, 9, 0]), (0, 1), (3, 1), [1, 1, 1, 1])
        self.counts("fair", whole([9, 0, 0, 9, 3]), (0, 1), (3, 1), [1, 2, 1, 1])

    def test_a_thing_broader_than_the_room(self):
        self.counts("fair", whole([9, 1, 1, 9, 1]), (0, 1), (3, 1), [1, 2, 1, 1])
        self.counts("wrap", whole([9, 1, 1, 9, 1]), (0, 1), (3, 1), [1, 2, 1, 1])

    def test_by_chance(self):
        chance = Random(22)
        for turn in range(250):
            length = chance.randrange(1, 8)
            widths = [Fraction(chance.randrange(0, 9), chance.randrange(1, 4)) for place in range(length)]
            gap = Fraction(chance.choice((0, 0, 1, 2)), chance.randrange(1, 4))
            room = Fraction(chance.randrange(-2, 16), chance.randrange(1, 3))
            told = [tuple_of(width) for width in widths]
            way, cost = best_way(widths, gap, room)
            self.counts("fair", told, tuple_of(gap), tuple_of(room), way)
            greedy = []
            place = 0
            while place < length:
                count = 1
                while place + count < length and span(widths[place:place + count + 1], gap) <= room:
                    count += 1
                greedy.append(count)
                place += count
            self.counts("wrap", told, tuple_of(gap), tuple_of(room), greedy)
            due = [tuple_of(best_way(widths[place:], gap, room)[1]) for place in range(length)] + [(0, 1)]
            self.assertEqual(prices_of(told, tuple_of(gap), tuple_of(room)), due)

    def test_ties_by_chance(self):
        # Few widths and a small room, so that many ways cost the same.
        chance = Random(23)
        for turn in range(250):
            widths = [Fraction(chance.randrange(0, 3)) for place in range(chance.randrange(1, 9))]
            room = Fraction(chance.randrange(0, 5))
            way, cost = best_way(widths, Fraction(0), room)
            self.counts("fair", [tuple_of(width) for width in widths], (0, 1), tuple_of(room), way)

    def test_many_and_long_ones(self):
        chance = Random(24)
        widths = [(chance.randrange(1, 40), chance.randrange(1, 13)) for place in range(300)]
        widths = [tuple_of(exact(width)) for width in widths]
        counts = flow_of("fair").counts(widths, (1, 3), (50, 1))
        self.assertEqual(sum(counts), 300)
        cost = way_cost([exact(width) for width in widths], Fraction(1, 3), Fraction(50), counts)
        self.assertEqual(prices_of(widths, (1, 3), (50, 1))[0], tuple_of(cost))
        greedy = flow_of("wrap").counts(widths, (1, 3), (50, 1))
        self.assertLessEqual(cost, way_cost([exact(width) for width in widths], Fraction(1, 3), Fraction(50), greedy))
        self.assertEqual(flow_of("fair").counts([(0, 1)] * 300, (0, 1), (0, 1)), [300])
        long = [tuple_of(Fraction(10 ** 499 + 7 * place, 10 ** 499 + 1 + place)) for place in range(12)]
        self.assertEqual(flow_of("wrap").counts(long, (0, 1), (5, 1)), [4, 4, 4])
        self.assertEqual(sum(flow_of("fair").counts(long, (0, 1), (5, 1))), 12)
        prices = prices_of(long, (0, 1), (5, 1))
        self.assertEqual(len(prices), 13)

    def test_one_flow_is_asked_again(self):
        flow = flow_of("wrap")
        first = flow.counts(whole([1, 1]), (0, 1), (2, 1))
        first.append(5)
        self.assertEqual(flow.counts(whole([1, 1]), (0, 1), (1, 1)), [1, 1])
        self.assertEqual(flow.counts(whole([1, 1]), (0, 1), (2, 1)), [2])


class PricesTest(FlowCase):
    def test_small_ones(self):
        self.assertEqual(prices_of([], (0, 1), (5, 1)), [(0, 1)])
        self.assertEqual(prices_of([], (0, 1), (-5, 1)), [(0, 1)])
        self.assertEqual(prices_of(whole([3]), (0, 1), (5, 1)), [(0, 1), (0, 1)])
        self.assertEqual(prices_of(whole([9]), (0, 1), (5, 1)), [(0, 1), (0, 1)])
        self.assertEqual(prices_of(whole([3, 3]), (0, 1), (5, 1)), [(4, 1), (0, 1), (0, 1)])
        self.assertEqual(prices_of(whole([3, 3]), (0, 1), (6, 1)), [(0, 1), (0, 1), (0, 1)])
        self.assertEqual(prices_of(whole([9, 3, 3]), (0, 1), (5, 1)), [(4, 1), (4, 1), (0, 1), (0, 1)])
        self.assertEqual(prices_of([(1, 2), (1, 3)], (0, 1), (2, 3)), [(1, 36), (0, 1), (0, 1)])
        self.assertEqual(prices_of(whole([1, 1, 1]), (1, 1), (2, 1)), [(2, 1), (1, 1), (0, 1), (0, 1)])
        self.assertEqual(prices_of(whole([1, 1]), (1, 1), (-2, 1)), [(0, 1), (0, 1), (0, 1)])

    def test_nothing_handed_in_is_changed(self):
        widths = whole([1, 2, 3])
        told = prices_of(widths, (1, 1), (3, 1))
        self.assertEqual(widths, whole([1, 2, 3]))
        told.clear()
        self.assertEqual(len(prices_of(widths, (1, 1), (3, 1))), 4)


class BreadthTest(FlowCase):
    def test_breadths(self):
        for word in WORDS:
            self.assertEqual(flow_of(word).breadth([], (3, 1)), (0, 1))
            self.assertEqual(flow_of(word).breadth([(7, 2)], (3, 1)), (7, 2))
        some = [(1, 2), (7, 3), (1, 6)]
        self.assertEqual(flow_of("stack").breadth(some, (5, 1)), (7, 3))
        for word in ("row", "wrap", "fair"):
            self.assertEqual(flow_of(word).breadth(some, (5, 1)), (13, 1))
            self.assertEqual(flow_of(word).breadth(some, (0, 1)), (3, 1))
            self.assertEqual(flow_of(word).breadth([(0, 1)] * 4, (1, 3)), (1, 1))
        self.assertEqual(flow_of("stack").breadth([(0, 1)] * 4, (1, 3)), (0, 1))
        self.assertEqual(some, [(1, 2), (7, 3), (1, 6)])


if __name__ == "__main__":
    unittest.main()
