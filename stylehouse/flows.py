"""Flows: how a row of things is broken into lines of a room."""

from stylehouse.shares import divisor_of, greatest, minus, plus, times, total


class Flow:
    def __init__(self, word):
        self.word = word

    def counts(self, widths, gap, room):
        if widths == []:
            return []
        if self.word == "stack":
            return [1 for width in widths]
        if self.word == "row":
            return [len(widths)]
        ends = reaches_of(widths, gap, room) if self.word == "wrap" else best_ends(widths, gap, room)
        return counted(ends)

    def breadth(self, widths, gap):
        if self.word == "stack":
            return greatest(widths)
        return span_of(widths, gap)


def flow_of(word):
    return Flow(word)


def prices_of(widths, gap, room):
    ends = best_ends(widths, gap, room)
    prices = [(0, 1)]
    # From the last place on: what a line costs, and the price of the place where the next line begins.
    for place in range(len(widths) - 1, -1, -1):
        end = ends[place]
        price = (0, 1)
        if end < len(widths):
            price = plus(cost_of(widths[place:end], gap, room), prices[len(widths) - end])
        prices.append(price)
    return list(reversed(prices))


def cost_of(widths, gap, room):
    left = minus(room, span_of(widths, gap))
    return times(left, left) if left[0] > 0 else (0, 1)


def span_of(widths, gap):
    if widths == []:
        return (0, 1)
    return plus(total(widths), times(gap, (len(widths) - 1, 1)))


def counted(ends):
    counts = []
    place = 0
    while place < len(ends):
        counts.append(ends[place] - place)
        place = ends[place]
    return counts


def scaled(widths, gap, room):
    # Whole numbers over one bottom for all: they are added and compared much faster than fractions.
    scale = 1
    for one in widths + [gap, room]:
        scale = scale // divisor_of(scale, one[1]) * one[1]
    return [one[0] * (scale // one[1]) for one in widths + [gap, room]]


def reaches_of(widths, gap, room):
    # For each place where the farthest line that begins there ends.
    numbers = scaled(widths, gap, room)
    return [reach(numbers, place) for place in range(len(widths))]


def reach(numbers, place):
    length = len(numbers) - 2
    left = numbers[-1] - numbers[place]
    end = place + 1
    while end < length and numbers[-2] + numbers[end] <= left:
        left -= numbers[-2] + numbers[end]
        end += 1
    return end


def best_ends(widths, gap, room):
    # For each place where the line that begins there ends, in the cheapest breaking of all from there on.
    numbers = scaled(widths, gap, room)
    length = len(widths)
    prices = [0 for place in range(length + 1)]
    ends = [length for place in range(length)]
    for place in range(length - 1, -1, -1):
        if reach(numbers, place) < length:
            best = cheapest(numbers, prices, place)
            prices[place] = best[0]
            ends[place] = best[1]
    return ends


def cheapest(numbers, prices, place):
    # Of lines that come as cheap the longest, so a later one need only be as cheap as an earlier one.
    left = numbers[-1] - numbers[place]
    best = None
    for end in range(place + 1, reach(numbers, place) + 1):
        price = max(left, 0) * max(left, 0) + prices[end]
        if best is None or price <= best[0]:
            best = (price, end)
        left -= numbers[-2] + numbers[end]
    return best
