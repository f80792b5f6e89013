"""Points 25 and 26, with point 2: dealing a room to the things of a line."""

import unittest
from fractions import Fraction
from random import Random

from helper import exact, tuple_of
from stylehouse.deal import dealt


def item(base, least=0, most=None, grow=0, shrink=0):
    """A thing of a line, told by Python's own fractions or whole numbers."""
    return (
        tuple_of(base), tuple_of(least), None if most is None else tuple_of(most), tuple_of(grow), tuple_of(shrink),
    )


def fractions(some):
    return [tuple_of(one) for one in some]


def dealt_by_words(items, room):
    """What point 25 says, once more, sentence by sentence."""
    begins = []
    for base, least, most, grow, shrink in items:
        begin = max(base, least)
        begins.append(begin if most is None else min(begin, max(least, most)))
    if sum(begins) == room:
        return begins, Fraction(0), []
    grows = sum(begins) < room
    widths = list(begins)
    loose = [place for place, one in enumerate(items) if (one[3] if grows else one[4]) > 0]
    rounds = []
    while loose:
        share = {place: items[place][3] if grows else items[place][4] for place in loose}
        level = abs(room - sum(widths)) / sum(share.values())
        beyond = []
        for place in loose:
            least, most = items[place][1:3]
            if grows:
                bound = None if most is None else max(least, most)
                if bound is not None and begins[place] + share[place] * level > bound:
                    beyond.append(place)
            elif begins[place] - share[place] * level < least:
                beyond.append(place)
        if not beyond:
            for place in loose:
                widths[place] += share[place] * level * (1 if grows else -1)
            return widths, level, rounds
        rounds.append(beyond)
        for place in beyond:
            least, most = items[place][1:3]
            widths[place] = max(least, most) if grows else least
        loose = [place for place in loose if place not in beyond]
    return widths, None, rounds


class DealCase(unittest.TestCase):
    def deal(self, items, room, widths, level, rounds):
        told = dealt(items, tuple_of(room))
        due = (fractions(widths), None if level is None else tuple_of(level), rounds)
        self.assertIs(type(told), tuple)
        self.assertEqual(told, due)


class DealTest(DealCase):
    def test_no_thing_at_all(self):
        self.deal([], 0, [], 0, [])
        self.deal([], 5, [], None, [])
        self.deal([], -5, [], None, [])

    def test_just_the_room(self):
        self.deal([item(2), item(3)], 5, [2, 3], 0, [])
        self.deal([item(2, grow=1, shrink=1), item(3, grow=1, shrink=1)], 5, [2, 3], 0, [])
        self.deal([item(2, least=2, most=2, grow=1, shrink=1)], 2, [2], 0, [])
        self.deal([item(9, most=2), item(0, least=3)], 5, [2, 3], 0, [])
        self.deal([item(0)], 0, [0], 0, [])

    def test_growing(self):
        self.deal([item(1, grow=1), item(1, grow=1)], 5, [Fraction(5, 2)] * 2, Fraction(3, 2), [])
        self.deal([item(1, grow=1), item(1, grow=2)], 5, [2, 3], 1, [])
        self.deal([item(1, grow=Fraction(1, 2)), item(1)], 5, [4, 1], 6, [])
        self.deal([item(1, grow=1, shrink=9)], 4, [4], 3, [])

    def test_growing_to_bounds(self):
        self.deal([item(1, most=2, grow=1), item(1, grow=1)], 7, [2, 5], 4, [[0]])
        self.deal([item(1, most=2, grow=1), item(1, most=3, grow=1)], 7, [2, 3], None, [[0, 1]])
        self.deal([item(1, most=2, grow=1), item(1, most=5, grow=1)], 7, [2, 5], 4, [[0]])
        self.deal([item(1, most=2, grow=1), item(1, most=Fraction(9, 2), grow=1)], 7, [2, Fraction(9, 2)], None, [[0], [1]])

    def test_coming_just_to_the_bound_is_not_beyond_it(self):
        self.deal([item(1, most=2, grow=1), item(1, most=2, grow=1)], 4, [2, 2], 1, [])
        self.deal([item(3, least=2, shrink=1), item(3, least=2, shrink=1)], 4, [2, 2], 1, [])

    def test_shrinking(self):
        self.deal([item(4, shrink=1), item(4, shrink=1)], 6, [3, 3], 1, [])
        self.deal([item(4, shrink=1), item(4, shrink=3)], 6, [Fraction(7, 2), Fraction(5, 2)], Fraction(1, 2), [])
        self.deal([item(4, shrink=1, grow=7), item(4)], 6, [2, 4], 2, [])

    def test_shrinking_to_bounds(self):
        self.deal([item(4, least=3, shrink=1), item(4, shrink=1)], 4, [3, 1], 3, [[0]])
        self.deal([item(4, least=3, shrink=1), item(4, least=2, shrink=1)], 4, [3, 2], None, [[0], [1]])
        self.deal([item(4, least=3, shrink=1), item(4, least=2, shrink=1)], 3, [3, 2], None, [[0, 1]])
        self.deal([item(4, shrink=1), item(4, shrink=1)], 0, [0, 0], 4, [])
        self.deal([item(4, shrink=1), item(4, shrink=2)], 0, [0, 0], 4, [[1]])

    def test_a_room_below_nought(self):
        self.deal([item(4, shrink=1), item(4, shrink=1)], -1, [0, 0], None, [[0, 1]])
        self.deal([item(4), item(4)], -1, [4, 4], None, [])
        self.deal([item(0, shrink=1)], -1, [0], None, [[0]])

    def test_without_a_share(self):
        self.deal([item(1), item(2)], 9, [1, 2], None, [])
        self.deal([item(1), item(2)], 2, [1, 2], None, [])
        self.deal([item(1, shrink=1), item(2, shrink=1)], 9, [1, 2], None, [])
        self.deal([item(1, grow=1), item(2, grow=1)], 2, [1, 2], None, [])
        self.deal([item(1), item(2, grow=1, most=3), item(5)], 20, [1, 3, 5], None, [[1]])

    def test_a_most_less_than_its_least(self):
        self.deal([item(1, least=5, most=2, grow=1), item(0, grow=1)], 9, [5, 4], 4, [[0]])
        self.deal([item(9, least=5, most=2, grow=1, shrink=1)], 9, [5], None, [[0]])
        self.deal([item(9, least=5, most=2, grow=1, shrink=1)], 4, [5], None, [[0]])
        self.deal([item(9, least=5, most=2)], 5, [5], 0, [])

    def test_one_that_begins_at_its_bound(self):
        self.deal([item(2, most=2, grow=1), item(1, grow=1)], 6, [2, 4], 3, [[0]])
        self.deal([item(7, most=2, grow=1), item(1, grow=1)], 6, [2, 4], 3, [[0]])
        self.deal([item(2, least=2, shrink=1), item(3, shrink=1)], 4, [2, 2], 1, [[0]])
        self.deal([item(0, least=2, shrink=1), item(3, shrink=1)], 4, [2, 2], 1, [[0]])

    def test_several_rounds_and_several_in_one(self):
        items = [item(0, most=1, grow=1), item(0, most=3, grow=1), item(0, most=1, grow=1), item(0, grow=1)]
        # 12 / 4 is 3: the second comes just to its bound then, and beyond it once the level has risen to 5.
        self.deal(items, 12, [1, 3, 1, 7], 7, [[0, 2], [1]])
        items = [item(10, least=place, shrink=1) for place in (9, 0, 5, 8, 9)]
        self.deal(items, 45, [9, 9, 9, 9, 9], 1, [])
        self.deal(items, 38, [9, 6, 6, 8, 9], 4, [[0, 3, 4]])
        self.deal(items, 33, [9, 2, 5, 8, 9], 8, [[0, 3, 4], [2]])
        self.deal(items, 31, [9, 0, 5, 8, 9], 10, [[0, 3, 4], [2]])
        self.deal(items, 30, [9, 0, 5, 8, 9], None, [[0, 3, 4], [2], [1]])

    def test_long_numbers(self):
        top = 10 ** 499 + 3
        bottom = 10 ** 499 + 9
        items = [item(Fraction(top + place, bottom + place), grow=Fraction(1, bottom + 2 * place)) for place in range(9)]
        widths, level, rounds = dealt(items, (30, 1))
        self.assertEqual(sum(exact(width) for width in widths), 30)
        self.assertEqual(rounds, [])

    def test_three_hundred_things(self):
        items = [item(0, most=Fraction(place, 7), grow=1) for place in range(300)]
        widths, level, rounds = dealt(items, (5000, 1))
        due = dealt_by_words([tuple(None if one is None else exact(one) for one in each) for each in items], Fraction(5000))
        self.assertEqual((widths, rounds), (fractions(due[0]), due[2]))
        self.assertEqual(exact(level), due[1])

    def test_nothing_handed_in_is_changed(self):
        items = [item(1, most=2, grow=1), item(1, grow=1)]
        same = list(items)
        for room in (7, 2, 1, -1):
            told = dealt(items, (room, 1))
            self.assertEqual(items, same)
            again = dealt(items, (room, 1))
            told[0].clear()
            told[2].append(5)
            self.assertEqual(dealt(items, (room, 1)), again)


class ChanceTest(DealCase):
    def some(self, chance):
        def one(most, parts=3):
            return Fraction(chance.randrange(0, most), chance.randrange(1, parts + 1))

        return [
            (
                one(9), one(5), None if chance.random() < 0.4 else one(12), chance.choice((0, one(4))),
                chance.choice((0, one(4))),
            )
            for place in range(chance.randrange(0, 7))
        ]

    def test_the_words_of_point_25(self):
        chance = Random(25)
        for turn in range(1500):
            items = self.some(chance)
            room = Fraction(chance.randrange(-6, 60), chance.randrange(1, 4))
            told = [item(*one) for one in items]
            widths, level, rounds = dealt_by_words(items, room)
            with self.subTest(items=items, room=room):
                self.deal(told, room, widths, level, rounds)

    def test_what_follows_from_them(self):
        chance = Random(26)
        for turn in range(600):
            items = self.some(chance)
            room = Fraction(chance.randrange(-6, 60), chance.randrange(1, 4))
            widths, level, rounds = dealt([item(*one) for one in items], tuple_of(room))
            widths = [exact(width) for width in widths]
            if level is not None:
                self.assertEqual(sum(widths), room)
                continue
            grows = sum(widths) < room
            for width, (base, least, most, grow, shrink) in zip(widths, items):
                if (grow if grows else shrink) > 0:
                    self.assertEqual(width, max(least, most) if grows else least)
            for some in rounds:
                self.assertNotEqual(some, [])
                self.assertEqual(some, sorted(some))
            self.assertEqual(len(sum(rounds, [])), len(set(sum(rounds, []))))


if __name__ == "__main__":
    unittest.main()
