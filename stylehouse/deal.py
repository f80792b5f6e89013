"""Dealing: the things of a line grow or shrink by their shares until they fill a room."""

from stylehouse.shares import held, less, minus, over, plus, times, total


def dealt(items, room):
    begins = [held(item[0], item[1], item[2]) for item in items]
    missing = minus(room, total(begins))
    if missing == (0, 1):
        return (begins, (0, 1), [])
    grows = missing[0] > 0
    shares = [item[3] if grows else item[4] for item in items]
    bounds = [most_of(item) if grows else item[1] for item in items]
    ways = [way_to(bound, begin) for bound, begin in zip(bounds, begins)]
    found = rounds_of(ways, shares, (abs(missing[0]), missing[1]))
    widths = begins
    if found[0] is not None:
        widths = [moved(begin, share, found[0], grows) for begin, share in zip(begins, shares)]
    for some in found[1]:
        for place in some:
            widths[place] = bounds[place]
    return (widths, found[0], found[1])


def most_of(item):
    # A most that is less than the least counts as the least.
    return item[1] if item[2] is not None and less(item[2], item[1]) else item[2]


def way_to(bound, begin):
    # How far a thing may go, whichever way the line goes; None for as far as it likes.
    if bound is None:
        return None
    way = minus(bound, begin)
    return (abs(way[0]), way[1])


def moved(begin, share, level, grows):
    way = times(share, level)
    return plus(begin, way) if grows else minus(begin, way)


def rounds_of(ways, shares, amount):
    # The level, or None, and the rounds, for an amount that is missing or too much.
    loose = [place for place in range(len(shares)) if shares[place] != (0, 1)]
    weight = total([shares[place] for place in loose])
    rounds = []
    while loose != []:
        # Not in lowest terms: to compare it needs none, and to find them is slow for long fractions.
        level = (amount[0] * weight[1], amount[1] * weight[0])
        beyond = [place for place in loose if is_beyond(ways[place], shares[place], level)]
        if beyond == []:
            return (over(amount, weight), rounds)
        rounds.append(beyond)
        amount = minus(amount, total([ways[place] for place in beyond]))
        weight = minus(weight, total([shares[place] for place in beyond]))
        loose = [place for place in loose if place not in beyond]
    return (None, rounds)


def is_beyond(way, share, level):
    if way is None:
        return False
    return less(way, (share[0] * level[0], share[1] * level[1]))
