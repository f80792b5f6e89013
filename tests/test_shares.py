"""Points 4 and 5, with point 2: exact fractions."""

import unittest
from fractions import Fraction
from math import gcd
from random import Random

from stylehouse.errors import HouseError, NoFraction
from stylehouse.shares import fraction, greatest, held, less, minus, over, plus, times, total

HALF = (1, 2)
THIRD = (1, 3)
NOUGHT = (0, 1)
ONE = (1, 1)


def tuple_of(exact):
    return (exact.numerator, exact.denominator)


def small_fractions():
    return sorted({Fraction(top, bottom) for top in range(-7, 8) for bottom in range(1, 8)})


def long_fractions():
    chance = Random(4)
    sizes = (30, 100, 101, 250, 500)
    found = [Fraction(0), Fraction(1, 10 ** 120), Fraction(-(10 ** 120), 3 ** 200)]
    for size in sizes:
        for sign in (1, -1):
            top = chance.randrange(10 ** (size - 1), 10 ** size)
            bottom = chance.randrange(10 ** (size - 1), 10 ** size)
            found.append(Fraction(sign * top, bottom))
            found.append(Fraction(sign * top, 6 ** size))
    return found


class SharesCase(unittest.TestCase):
    def is_told(self, told, top, bottom):
        self.is_fraction(told)
        self.assertEqual(told, (top, bottom))

    def is_fraction(self, told):
        self.assertIs(type(told), tuple)
        self.assertEqual(len(told), 2)
        self.assertIs(type(told[0]), int)
        self.assertIs(type(told[1]), int)
        self.assertGreaterEqual(told[1], 1)
        self.assertEqual(gcd(told[0], told[1]), 1)

    def is_exactly(self, told, exact):
        self.is_told(told, exact.numerator, exact.denominator)


class FractionTest(SharesCase):
    def test_either_sign(self):
        self.is_told(fraction(3, 4), 3, 4)
        self.is_told(fraction(-3, 4), -3, 4)
        self.is_told(fraction(3, -4), -3, 4)
        self.is_told(fraction(-3, -4), 3, 4)

    def test_divisors_in_common(self):
        self.is_told(fraction(6, 4), 3, 2)
        self.is_told(fraction(-6, 4), -3, 2)
        self.is_told(fraction(6, -4), -3, 2)
        self.is_told(fraction(-6, -4), 3, 2)
        self.is_told(fraction(84, 126), 2, 3)
        self.is_told(fraction(4, 2), 2, 1)
        self.is_told(fraction(2, 4), 1, 2)

    def test_alike_and_whole(self):
        self.is_told(fraction(7, 7), 1, 1)
        self.is_told(fraction(7, -7), -1, 1)
        self.is_told(fraction(7, 1), 7, 1)
        self.is_told(fraction(7, -1), -7, 1)
        self.is_told(fraction(1, 7), 1, 7)
        self.is_told(fraction(1, -7), -1, 7)

    def test_nought_is_always_the_same(self):
        for bottom in (1, -1, 2, -2, 12, 10 ** 150, -(10 ** 150)):
            with self.subTest(bottom=bottom):
                self.is_told(fraction(0, bottom), 0, 1)

    def test_all_small_ones(self):
        for top in range(-25, 26):
            for bottom in range(-25, 26):
                if bottom != 0:
                    with self.subTest(top=top, bottom=bottom):
                        self.is_exactly(fraction(top, bottom), Fraction(top, bottom))

    def test_many_figures(self):
        common = 7 ** 200 * 11 ** 30
        self.is_told(fraction(3 * common, 5 * common), 3, 5)
        self.is_told(fraction(-3 * common, -5 * common), 3, 5)
        self.is_told(fraction(10 ** 120 + 1, 10 ** 120), 10 ** 120 + 1, 10 ** 120)
        self.is_told(fraction(10 ** 400, -(10 ** 150)), -(10 ** 250), 1)
        chance = Random(1)
        for size in (100, 137, 500, 3000):
            factor = chance.randrange(10 ** (size - 1), 10 ** size)
            top = chance.randrange(10 ** (size - 1), 10 ** size)
            bottom = chance.randrange(10 ** (size - 1), 10 ** size)
            with self.subTest(size=size):
                self.is_exactly(fraction(top * factor, bottom * factor), Fraction(top, bottom))
                self.is_exactly(fraction(top * factor, -bottom), Fraction(top * factor, -bottom))

    def test_no_fraction_over_nought(self):
        for top in (0, 1, -1, 12, 10 ** 150, 10 ** 6000):
            with self.assertRaises(NoFraction) as taken:
                fraction(top, 0)
            self.assertIsInstance(taken.exception, HouseError)

    def test_no_fraction_of_what_is_no_whole_number(self):
        for thing in (True, False, None, "1", "", 1.0, (1, 2), [1], {}):
            with self.subTest(thing=thing):
                with self.assertRaises(NoFraction):
                    fraction(thing, 1)
                with self.assertRaises(NoFraction):
                    fraction(1, thing)

    def test_right_answers_behind_a_refusal(self):
        for again in range(3):
            with self.assertRaises(NoFraction):
                fraction(4, 0)
            self.is_told(fraction(4, 6), 2, 3)
            self.is_told(fraction(0, 4), 0, 1)


class ReckoningTest(SharesCase):
    def all_four(self, one, other):
        first = tuple_of(one)
        second = tuple_of(other)
        self.is_exactly(plus(first, second), one + other)
        self.is_exactly(minus(first, second), one - other)
        self.is_exactly(times(first, second), one * other)
        if other == 0:
            with self.assertRaises(NoFraction):
                over(first, second)
        else:
            self.is_exactly(over(first, second), one / other)

    def test_sums(self):
        self.is_told(plus(HALF, THIRD), 5, 6)
        self.is_told(plus((1, 6), (1, 3)), 1, 2)
        self.is_told(plus(HALF, HALF), 1, 1)
        self.is_told(plus((1, 2), (-1, 2)), 0, 1)
        self.is_told(plus((1, 6), (-1, 2)), -1, 3)
        self.is_told(plus((1, 12), (1, 20)), 2, 15)
        self.is_told(plus(NOUGHT, THIRD), 1, 3)
        self.is_told(plus(THIRD, NOUGHT), 1, 3)
        self.is_told(plus(NOUGHT, NOUGHT), 0, 1)

    def test_differences(self):
        self.is_told(minus(HALF, THIRD), 1, 6)
        self.is_told(minus(THIRD, HALF), -1, 6)
        self.is_told(minus((5, 6), (1, 3)), 1, 2)
        self.is_told(minus(HALF, HALF), 0, 1)
        self.is_told(minus(NOUGHT, HALF), -1, 2)
        self.is_told(minus(HALF, NOUGHT), 1, 2)
        self.is_told(minus((-1, 2), (-1, 3)), -1, 6)

    def test_products(self):
        self.is_told(times(HALF, THIRD), 1, 6)
        self.is_told(times((2, 3), (3, 2)), 1, 1)
        self.is_told(times((4, 9), (3, 8)), 1, 6)
        self.is_told(times((-4, 9), (3, 8)), -1, 6)
        self.is_told(times((-4, 9), (-3, 8)), 1, 6)
        self.is_told(times(NOUGHT, (5, 7)), 0, 1)
        self.is_told(times((5, 7), NOUGHT), 0, 1)
        self.is_told(times(NOUGHT, (-5, 7)), 0, 1)

    def test_quotients(self):
        self.is_told(over(HALF, THIRD), 3, 2)
        self.is_told(over((2, 3), (2, 3)), 1, 1)
        self.is_told(over((2, 3), (4, 9)), 3, 2)
        self.is_told(over((2, 3), (-4, 9)), -3, 2)
        self.is_told(over((-2, 3), (4, 9)), -3, 2)
        self.is_told(over((-2, 3), (-4, 9)), 3, 2)
        self.is_told(over(NOUGHT, (4, 9)), 0, 1)
        self.is_told(over(NOUGHT, (-4, 9)), 0, 1)
        self.is_told(over(ONE, (-3, 1)), -1, 3)

    def test_all_four_of_all_small_ones(self):
        for one in small_fractions():
            for other in small_fractions():
                with self.subTest(one=one, other=other):
                    self.all_four(one, other)

    def test_all_four_of_long_ones(self):
        for one in long_fractions():
            for other in long_fractions():
                self.all_four(one, other)

    def test_no_quotient_by_nought(self):
        for one in (NOUGHT, ONE, (-1, 2), (10 ** 6000, 7)):
            with self.assertRaises(NoFraction) as taken:
                over(one, NOUGHT)
            self.assertIsInstance(taken.exception, HouseError)

    def test_right_answers_behind_a_refusal(self):
        for again in range(3):
            with self.assertRaises(NoFraction):
                over(HALF, NOUGHT)
            self.is_told(over(HALF, (1, 4)), 2, 1)
            self.is_told(plus(HALF, THIRD), 5, 6)
            self.is_told(minus(HALF, THIRD), 1, 6)
            self.is_told(times(HALF, NOUGHT), 0, 1)
            self.is_told(total([HALF, NOUGHT]), 1, 2)


class TotalTest(SharesCase):
    def test_of_none_and_of_one(self):
        self.is_told(total([]), 0, 1)
        self.is_told(total([(3, 4)]), 3, 4)
        self.is_told(total([(-3, 4)]), -3, 4)
        self.is_told(total([NOUGHT]), 0, 1)

    def test_of_many(self):
        self.is_told(total([HALF, THIRD, (1, 6)]), 1, 1)
        self.is_told(total([HALF, HALF, HALF]), 3, 2)
        self.is_told(total([NOUGHT] * 300), 0, 1)
        self.is_told(total([(1, 300)] * 300), 1, 1)
        some = [Fraction(1, bottom) for bottom in range(1, 301)]
        self.is_exactly(total([tuple_of(one) for one in some]), sum(some))

    def test_of_opposites(self):
        self.is_told(total([HALF, (-1, 2)]), 0, 1)
        some = [(3, 7), (5, 9), (10 ** 120 + 1, 10 ** 120), (2, 1)]
        opposites = [(-one[0], one[1]) for one in some]
        self.is_told(total(some + opposites), 0, 1)
        self.is_told(total(opposites + list(reversed(some)) + [(-1, 3)]), -1, 3)

    def test_of_long_ones(self):
        self.is_exactly(total([tuple_of(one) for one in long_fractions()]), sum(long_fractions()))

    def test_of_as_many_and_as_long_ones_as_are_promised(self):
        # The bottoms have next to nothing in common, so the sum's bottom has some 150000 figures.
        base = 10 ** 499
        some = [fraction(place + 1, base + 2 * place + 1) for place in range(300)]
        told = total(some)
        tops = 0
        bottoms = 1
        for top, bottom in some:
            tops = tops * bottom + top * bottoms
            bottoms = bottoms * bottom
        self.assertEqual(told[0] * bottoms, tops * told[1])
        self.assertEqual(gcd(told[0], told[1]), 1)

    def test_the_list_stays_as_it_was(self):
        some = [HALF, (-2, 3), NOUGHT, (7, 1)]
        same = list(some)
        first = total(some)
        self.assertEqual(some, same)
        self.assertEqual(total(some), first)
        none = []
        total(none)
        self.assertEqual(none, [])

    def test_what_was_told_stays(self):
        some = [HALF]
        told = total(some)
        some.append(HALF)
        self.assertEqual(told, (1, 2))
        self.assertEqual(total(some), (1, 1))
        self.assertEqual(total([]), (0, 1))


class LessTest(SharesCase):
    def test_told_as_a_truth(self):
        self.assertIs(less(THIRD, HALF), True)
        self.assertIs(less(HALF, THIRD), False)
        self.assertIs(less(NOUGHT, HALF), True)
        self.assertIs(less((-1, 2), NOUGHT), True)
        self.assertIs(less((-1, 2), (-1, 3)), True)
        self.assertIs(less((-1, 3), (-1, 2)), False)
        self.assertIs(less((-5, 1), (1, 9)), True)

    def test_alike_ones(self):
        for one in (NOUGHT, ONE, HALF, (-2, 3), (10 ** 120 + 1, 10 ** 120)):
            self.assertIs(less(one, tuple(list(one))), False)

    def test_all_small_ones(self):
        for one in small_fractions():
            for other in small_fractions():
                with self.subTest(one=one, other=other):
                    self.assertIs(less(tuple_of(one), tuple_of(other)), one < other)

    def test_by_a_hair(self):
        big = 10 ** 200
        self.assertIs(less((big, big + 1), (big + 1, big + 2)), True)
        self.assertIs(less((big + 1, big + 2), (big, big + 1)), False)


class GreatestTest(SharesCase):
    def test_of_none_and_of_some(self):
        self.is_told(greatest([]), 0, 1)
        self.is_told(greatest([NOUGHT, NOUGHT]), 0, 1)
        self.is_told(greatest([THIRD]), 1, 3)
        for some in ([HALF, THIRD, NOUGHT], [THIRD, HALF, NOUGHT], [NOUGHT, THIRD, HALF]):
            same = list(some)
            self.is_told(greatest(some), 1, 2)
            self.assertEqual(some, same)


class HeldTest(SharesCase):
    def test_between_two_bounds(self):
        low = (1, 3)
        high = (3, 2)
        self.is_told(held((1, 4), low, high), 1, 3)
        self.is_told(held((-7, 1), low, high), 1, 3)
        self.is_told(held((1, 3), low, high), 1, 3)
        self.is_told(held((1, 2), low, high), 1, 2)
        self.is_told(held((3, 2), low, high), 3, 2)
        self.is_told(held((8, 5), low, high), 3, 2)

    def test_without_a_high_bound(self):
        self.is_told(held((1, 4), THIRD, None), 1, 3)
        self.is_told(held((1, 3), THIRD, None), 1, 3)
        self.is_told(held((10 ** 120, 1), THIRD, None), 10 ** 120, 1)
        self.is_told(held((-1, 4), NOUGHT, None), 0, 1)

    def test_nought_as_a_bound_is_a_bound(self):
        self.is_told(held(ONE, NOUGHT, NOUGHT), 0, 1)
        self.is_told(held(ONE, (-1, 1), NOUGHT), 0, 1)
        self.is_told(held((-1, 2), (-1, 1), NOUGHT), -1, 2)
        self.is_told(held((-2, 1), NOUGHT, NOUGHT), 0, 1)

    def test_bounds_that_are_alike(self):
        for one in ((1, 3), (1, 2), (2, 3)):
            self.is_told(held(one, HALF, HALF), 1, 2)

    def test_a_high_bound_below_the_low_one(self):
        low = (3, 2)
        high = (1, 2)
        for one in ((0, 1), (1, 2), (1, 1), (3, 2), (2, 1), (-5, 1), (10 ** 120, 1)):
            with self.subTest(one=one):
                self.is_told(held(one, low, high), 3, 2)

    def test_all_small_ones(self):
        some = [Fraction(top, bottom) for top in range(-3, 4) for bottom in (1, 2, 3)]
        for one in some:
            for low in some:
                for high in some:
                    due = min(max(one, low), max(low, high))
                    self.assertEqual(held(tuple_of(one), tuple_of(low), tuple_of(high)), tuple_of(due))


if __name__ == "__main__":
    unittest.main()
