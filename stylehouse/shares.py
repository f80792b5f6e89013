"""Exact fractions: tuples (top, bottom) in lowest terms, bottom from 1 on."""

from stylehouse.errors import NoFraction

NOUGHT = (0, 1)


def is_whole(thing):
    return isinstance(thing, int) and not isinstance(thing, bool)


def divisor_of(one, other):
    # Whoever asks hands in at least one number that isn't 0, so the answer may be divided by.
    one = abs(one)
    other = abs(other)
    while other != 0:
        rest = one % other
        one = other
        other = rest
    return one


def fraction(top, bottom):
    # The refusals show no number: to write a very long one is an error of Python's own.
    if not is_whole(top) or not is_whole(bottom):
        raise NoFraction("a fraction is made of two whole numbers")
    if bottom == 0:
        raise NoFraction("a fraction's bottom is not 0")
    divisor = divisor_of(top, bottom)
    if bottom < 0:
        divisor = -divisor
    return (top // divisor, bottom // divisor)


def plus(one, other):
    # Only what the bottoms have in common can be left in the sum's top and bottom. Divisors are sought
    # in that alone, since to seek them in the whole sum is slow where many long fractions are added.
    shared = divisor_of(one[1], other[1])
    rest = other[1] // shared
    top = one[0] * rest + other[0] * (one[1] // shared)
    left = divisor_of(top, shared)
    return (top // left, one[1] // left * rest)


def minus(one, other):
    return plus(one, (-other[0], other[1]))


def times(one, other):
    # Each factor is in lowest terms, so divisors are only in one's top and the other's bottom.
    first = divisor_of(one[0], other[1])
    second = divisor_of(other[0], one[1])
    return ((one[0] // first) * (other[0] // second), (one[1] // second) * (other[1] // first))


def over(one, other):
    if other[0] == 0:
        raise NoFraction("nothing is divided by nought")
    if other[0] < 0:
        return times(one, (-other[1], -other[0]))
    return times(one, (other[1], other[0]))


def total(some):
    result = NOUGHT
    for one in some:
        result = plus(result, one)
    return result


def less(one, other):
    return one[0] * other[1] < other[0] * one[1]


def greatest(some):
    # Of fractions not below nought; of none it is nought.
    result = NOUGHT
    for one in some:
        if less(result, one):
            result = one
    return result


def held(one, low, high):
    if less(one, low):
        return low
    if high is None:
        return one
    # A high bound below the low one counts as the low one.
    bound = low if less(high, low) else high
    if less(bound, one):
        return bound
    return one
