"""The properties, their starts and their values."""

from stylehouse.errors import NoValue
from stylehouse.names import is_name
from stylehouse.shares import is_whole

PROPS = (
    "ink", "size", "wide", "least", "most", "grow", "shrink", "gap", "pad", "tall", "flow", "spread", "stand",
)
NUMBER_PROPS = ("size", "wide", "least", "most", "grow", "shrink", "gap", "pad", "tall")
PART_PROPS = ("wide", "least", "most")
HANDED_PROPS = ("ink", "size")

STARTS = {
    "ink": ("word", "black"),
    "size": ("number", 1, 1),
    "wide": ("word", "auto"),
    "least": ("number", 0, 1),
    "most": ("word", "none"),
    "grow": ("number", 0, 1),
    "shrink": ("number", 1, 1),
    "gap": ("number", 0, 1),
    "pad": ("number", 0, 1),
    "tall": ("number", 0, 1),
    "flow": ("word", "stack"),
    "spread": ("word", "left"),
    "stand": ("word", "top"),
}

WORDS = {
    "wide": ("auto",),
    "most": ("none",),
    "flow": ("stack", "row", "wrap", "fair"),
    "spread": ("left", "middle", "right", "apart"),
    "stand": ("top", "middle", "bottom", "full"),
}


def check_prop(prop):
    if prop not in PROPS:
        raise NoValue("there is no such property")


def start_of(prop):
    check_prop(prop)
    return STARTS[prop]


def is_handed(prop):
    check_prop(prop)
    return prop in HANDED_PROPS


def is_value(prop, value):
    if prop not in PROPS:
        return False
    if value in (("hand",), ("start",)):
        return True
    if len(value) == 2 and value[0] == "word":
        return is_word(prop, value[1])
    if len(value) == 3 and value[0] in ("number", "times"):
        return prop in NUMBER_PROPS and is_ratio(value[1], value[2])
    if len(value) == 3 and value[0] == "part":
        return prop in PART_PROPS and is_ratio(value[1], value[2])
    if len(value) == 4 and value[0] == "of":
        return prop in NUMBER_PROPS and value[1] in NUMBER_PROPS and is_ratio(value[2], value[3])
    return False


def is_word(prop, word):
    if prop == "ink":
        # As a text, hand and start are values of their own, not words.
        return is_name(word) and word not in ("hand", "start")
    return word in WORDS.get(prop, ())


def is_ratio(top, bottom):
    if not is_whole(top) or not is_whole(bottom):
        return False
    return 0 <= top < 10 ** 30 and 1 <= bottom < 10 ** 30
