"""Values: what is told of a box, and what is kept of it."""

from stylehouse.claims import winners_of
from stylehouse.props import PROPS, is_handed, start_of
from stylehouse.shares import fraction, times
from stylehouse.walks import beneath


def told_of(tree, sheet, box):
    return told_by(winners_of(tree, sheet, [box])[box])


def told_by(winners):
    told = {}
    for prop in PROPS:
        if prop in winners:
            told[prop] = winners[prop][2]
        else:
            told[prop] = ("hand",) if is_handed(prop) else ("start",)
    return told


def ring_of(told):
    return [prop for prop in PROPS if comes_back(told, prop)]


def comes_back(told, prop):
    # No ring has more properties than there are, so who isn't back by then goes round another ring or has stopped.
    at = prop
    for step in PROPS:
        if told[at][0] != "of":
            return False
        at = told[at][1]
        if at == prop:
            return True
    return False


def kept_of(told, above):
    kept = {}
    for prop in PROPS:
        if comes_back(told, prop):
            kept[prop] = start_of(prop)
    for prop in PROPS:
        settle_value(told, above, prop, kept)
    # In the order of the properties, whichever was reckoned first.
    return dict([(prop, kept[prop]) for prop in PROPS])


def settle_value(told, above, prop, kept):
    # What an of value names is reckoned ahead of it; this ends, since rings are kept already.
    if prop in kept:
        return
    value = told[prop]
    if value[0] == "of":
        settle_value(told, above, value[1], kept)
        kept[prop] = part_of(kept[value[1]], value[2], value[3], prop)
    elif value[0] == "times":
        kept[prop] = part_of(held_above(above, prop), value[1], value[2], prop)
    elif value[0] == "hand":
        kept[prop] = held_above(above, prop)
    elif value[0] == "start":
        kept[prop] = start_of(prop)
    else:
        kept[prop] = lowered(value)


def held_above(above, prop):
    return start_of(prop) if above is None else above[prop]


def part_of(whole, top, bottom, prop):
    if whole[0] != "number":
        return start_of(prop)
    part = times((whole[1], whole[2]), fraction(top, bottom))
    return ("number", part[0], part[1])


def lowered(value):
    if value[0] == "word":
        return value
    lowest = fraction(value[1], value[2])
    return (value[0], lowest[0], lowest[1])


def worth_of(tree, sheet):
    order = [0] + beneath(tree, 0)
    winners = winners_of(tree, sheet, order)
    worth = {}
    for box in order:
        holder = tree.holder_of(box)
        worth[box] = kept_of(told_by(winners[box]), None if holder is None else worth[holder])
    return worth
