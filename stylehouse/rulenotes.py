"""Notes of rules: patterns, rows and rules, written as texts and read back."""

from stylehouse.errors import NoText
from stylehouse.names import is_name
from stylehouse.notes import read_pair, read_row, read_whole, show_row

SIGNS = (".", "!", "@", "^")
JOINS = (">", "+", "~")


def show_pattern(pattern):
    text = ""
    for step in pattern:
        if step[0] in JOINS:
            text += " " + step[0] + " "
        else:
            # The first step's join is the empty text, another one's the blank.
            text += step[0]
        text += "".join([show_trait(trait) for trait in step[1]])
    return text


def show_trait(trait):
    kind = trait[0]
    if kind == "any":
        return "*"
    if kind == "name":
        return trait[1]
    if kind == "mark":
        return "." + trait[1]
    if kind == "not":
        return "!" + trait[1][1]
    sign = "@" if kind == "front" else "^"
    return sign + show_count(trait[1], trait[2])


def show_count(first, step):
    return f"{first}" if step == 0 else f"{first}/{step}"


def read_pattern(text):
    steps = []
    join = ""
    for word in text.split(" "):
        if word in JOINS:
            # A join stands between two steps, so a step came just ahead of it.
            if join != " ":
                raise NoText("a join stands between two steps")
            join = word
        else:
            steps.append((join, read_step(word)))
            join = " "
    if join != " ":
        raise NoText("a pattern ends with a step")
    return tuple(steps)


def read_step(text):
    starts = [place for place, sign in enumerate(text) if sign in SIGNS]
    ends = starts + [len(text)]
    traits = [read_head(text[:ends[0]])]
    for start, end in zip(starts, ends[1:]):
        traits.append(read_trait(text[start], text[start + 1:end]))
    return tuple(traits)


def read_head(text):
    if text == "*":
        return ("any",)
    return ("name", checked_name(text))


def read_trait(sign, text):
    if sign == ".":
        return ("mark", checked_name(text))
    if sign == "!":
        return ("not", ("mark", checked_name(text)))
    count = read_count(text)
    return ("front" if sign == "@" else "back", count[0], count[1])


def read_count(text):
    # Without a step from place to place there is no stroke either.
    if text.endswith("/0"):
        raise NoText("a step from place to place is from 1 on")
    return read_pair(text, 0)


def checked_name(text):
    if not is_name(text):
        raise NoText("this is no name")
    return text


def show_rows(rows):
    if len(rows) == 0:
        return "{ }"
    return "{ " + "; ".join([show_row(row) for row in rows]) + " }"


def read_rows(text):
    if text == "{ }":
        return ()
    if not text.startswith("{ ") or not text.endswith(" }"):
        raise NoText("rows stand between braces")
    return tuple([read_row(row) for row in text[2:-2].split("; ")])


def show_rule(rule):
    patterns = ", ".join([show_pattern(pattern) for pattern in rule[1]])
    return str(rule[0]) + " " + patterns + " " + show_rows(rule[2])


def read_rule(text):
    head = text.partition(" {")[0]
    layer = read_whole(head[:1])
    if head[1:2] != " ":
        raise NoText("a rule begins with one figure and a blank")
    patterns = tuple([read_pattern(pattern) for pattern in head[2:].split(", ")])
    return (layer, patterns, read_rows(text[len(head) + 1:]))
