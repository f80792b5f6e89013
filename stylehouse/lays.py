"""Laying: the widths and heights of a box and of its things, one box at a time."""

from stylehouse.deal import dealt
from stylehouse.flows import flow_of
from stylehouse.props import start_of
from stylehouse.shares import fraction, greatest, held, less, minus, over, plus, times, total


def spans_of(words, size, measure=None):
    if measure is None:
        return [times((len(word), 1), size) for word in words]
    return [lowest(measure(word, size)) for word in words]


def lowest(pair):
    return fraction(pair[0], pair[1])


def number_of(value):
    # The fraction of a kept value that is known to be a number.
    return (value[1], value[2])


def natural_of(values, widths):
    natural = breadth_of(values, widths)
    if values["wide"][0] == "number":
        natural = number_of(values["wide"])
    least = number_of(values["least"]) if values["least"][0] == "number" else (0, 1)
    most = number_of(values["most"]) if values["most"][0] == "number" else None
    return held(natural, least, most)


def breadth_of(values, widths):
    breadth = flow_of(values["flow"][1]).breadth(widths, number_of(values["gap"]))
    return plus(breadth, times((2, 1), number_of(values["pad"])))


def room_of(values, width):
    pad = number_of(values["pad"])
    half = times(width, (1, 2))
    edge = half if less(half, pad) else pad
    return (edge, minus(width, times((2, 1), edge)))


def wishes_of(values, natural):
    return (values["wide"], values["least"], values["most"], values["grow"], values["shrink"], natural)


def word_wishes(width):
    none = ("number", 0, 1)
    return (("number", width[0], width[1]), start_of("least"), start_of("most"), none, none, width)


def item_of(wish, room):
    # What dealing asks of a thing, in a room.
    return (
        in_room(wish[0], room, wish[5]), in_room(wish[1], room, None), in_room(wish[2], room, None),
        number_of(wish[3]), number_of(wish[4]),
    )


def in_room(value, room, other):
    if value[0] == "number":
        return number_of(value)
    if value[0] == "part":
        return times(number_of(value), room)
    return other


def lined(values, width, wishes):
    found = room_of(values, width)
    edge = found[0]
    room = found[1]
    gap = number_of(values["gap"])
    items = [item_of(wish, room) for wish in wishes]
    bases = [held(item[0], item[1], item[2]) for item in items]
    counts = flow_of(values["flow"][1]).counts(bases, gap, room)
    widths = []
    xs = []
    place = 0
    for count in counts:
        gaps = times(gap, (count - 1, 1))
        line = dealt(items[place:place + count], minus(room, gaps))[0]
        widths.extend(line)
        xs.extend(begins_of(line, values["spread"][1], gap, edge, room))
        place += count
    return (counts, widths, xs)


def begins_of(line, spread, gap, edge, room):
    # Where each thing of a line begins.
    left = left_of(line, gap, room)
    begin = plus(edge, ahead_of(spread, left))
    between = gap
    if spread == "apart" and len(line) > 1:
        between = plus(gap, over(left, (len(line) - 1, 1)))
    found = []
    for width in line:
        found.append(begin)
        begin = total([begin, width, between])
    return found


def left_of(line, gap, room):
    left = minus(minus(room, total(line)), times(gap, (len(line) - 1, 1)))
    return left if left[0] > 0 else (0, 1)


def ahead_of(spread, left):
    if spread == "right":
        return left
    if spread == "middle":
        return times(left, (1, 2))
    return (0, 1)


def raised(values, counts, heights):
    gap = number_of(values["gap"])
    pad = number_of(values["pad"])
    top = pad
    bottom = pad
    ys = []
    talls = []
    place = 0
    for count in counts:
        things = heights[place:place + count]
        line = greatest(things)
        for height in things:
            ys.append(plus(top, below_top(values["stand"][1], line, height)))
            talls.append(line if values["stand"][1] == "full" else height)
        bottom = plus(top, line)
        top = plus(bottom, gap)
        place += count
    own = plus(bottom, pad)
    return (held(own, number_of(values["tall"]), None), ys, talls)


def below_top(stand, line, height):
    if stand == "middle":
        return times(minus(line, height), (1, 2))
    if stand == "bottom":
        return minus(line, height)
    return (0, 1)
