"""Notes: fractions, values and rows, written as texts and read back."""

from stylehouse.errors import NoText
from stylehouse.names import is_name
from stylehouse.props import NUMBER_PROPS, is_value
from stylehouse.shares import fraction

MOST_FIGURES = 30


def is_numeral(text, most):
    # Not isdigit alone: it takes figures of other scripts, too.
    if not 1 <= len(text) <= most or not all(["0" <= sign <= "9" for sign in text]):
        return False
    return text == "0" or text[0] != "0"


def read_whole(text):
    if not is_numeral(text, MOST_FIGURES):
        raise NoText("this writes no whole number")
    return int(text)


def show_ratio(top, bottom):
    return f"{top}" if bottom == 1 else f"{top}/{bottom}"


def read_pair(text, other):
    # Two whole numbers with a stroke between, or one alone, to which the other one is added.
    parts = text.split("/")
    if len(parts) > 2:
        raise NoText("there is a stroke too many")
    if len(parts) == 1:
        return (read_whole(text), other)
    return (read_whole(parts[0]), read_whole(parts[1]))


def read_ratio(text):
    found = read_pair(text, 1)
    # A bottom of 1 isn't written, so one stands there only where there is no stroke.
    if found[1] == 0 or text.endswith("/1"):
        raise NoText("this writes no fraction")
    return found


def show_fraction(one):
    return show_ratio(one[0], one[1])


def read_fraction(text):
    found = read_ratio(text)
    if found != fraction(found[0], found[1]):
        raise NoText("a fraction is written in lowest terms")
    return found


def show_value(value):
    kind = value[0]
    if kind == "word":
        return value[1]
    if kind == "number":
        return show_ratio(value[1], value[2])
    if kind == "of":
        return show_ratio(value[2], value[3]) + " of " + value[1]
    if kind in ("part", "times"):
        return show_ratio(value[1], value[2]) + " " + kind
    return kind


def read_value(text):
    if text in ("hand", "start"):
        return (text,)
    if is_name(text):
        return ("word", text)
    words = text.split(" ")
    ratio = read_ratio(words[0])
    if len(words) == 1:
        return ("number", ratio[0], ratio[1])
    if len(words) == 2 and words[1] in ("part", "times"):
        return (words[1], ratio[0], ratio[1])
    if len(words) == 3 and words[1] == "of" and words[2] in NUMBER_PROPS:
        return ("of", words[2], ratio[0], ratio[1])
    raise NoText("this writes no value")


def show_row(row):
    text = row[0] + " " + show_value(row[1])
    return text + " !" if row[2] else text


def read_row(text):
    parts = text.partition(" ")
    first = parts[2].endswith(" !")
    value = read_value(parts[2][:-2] if first else parts[2])
    if not is_value(parts[0], value):
        raise NoText("this writes no row: its value is none for its property")
    return (parts[0], value, first)
