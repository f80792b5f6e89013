"""A desk: a house that is told rows of text and answers each with a text."""

from stylehouse.errors import NoRow
from stylehouse.house import House
from stylehouse.notes import is_numeral, read_fraction, show_fraction, show_value
from stylehouse.rulenotes import read_rows, read_rule

MOST_FIGURES = 9
MOST_WORDS = 40
LONGEST_WORD = 30

# Of each first word how many words its row has, itself counted, and the places of those that are numbers.
# A row of write may have more words.
SHAPES = {
    "put": (4, (1, 2)),
    "cut": (2, (1,)),
    "move": (4, (1, 2, 3)),
    "mark": (3, (1,)),
    "bare": (3, (1,)),
    "write": (2, (1,)),
    "dress": (3, (1,)),
    "add": (2, ()),
    "drop": (2, (1,)),
    "window": (2, ()),
    "settle": (1, ()),
    "value": (3, (1,)),
    "whence": (3, (1,)),
    "counts": (2, (1,)),
    "place": (2, (1,)),
}


class Desk:
    def __init__(self):
        self.house = House((0, 1))

    def say(self, row):
        words = parted(row)
        check_row(words)
        numbers = [int(words[place]) for place in SHAPES[words[0]][1]]
        if words[0] in ("settle", "value", "whence", "counts", "place"):
            return asked(self.house, words, numbers)
        return done(self.house, words, numbers)


def parted(row):
    first = row.partition(" ")[0]
    # What is behind the last of these blanks is one text, whatever blanks are in it.
    if first == "add":
        return row.split(" ", 1)
    if first == "dress":
        return row.split(" ", 2)
    return row.split(" ")


def check_row(words):
    if words[0] not in SHAPES:
        raise NoRow("there is no row with this first word")
    shape = SHAPES[words[0]]
    if len(words) < shape[0] or (len(words) > shape[0] and words[0] != "write"):
        raise NoRow("the row has too few or too many words")
    if "" in words:
        raise NoRow("words are parted by one blank each")
    if not all([is_numeral(words[place], MOST_FIGURES) for place in shape[1]]):
        raise NoRow("a number has one to nine figures")
    if words[0] == "write" and not are_words(words[2:]):
        raise NoRow("no box has such words")


def are_words(words):
    return len(words) <= MOST_WORDS and all([is_word(word) for word in words])


def is_word(word):
    # The sign between the dollar and the ampersand is left out.
    return 1 <= len(word) <= LONGEST_WORD and all(["!" <= sign <= "~" and ord(sign) != 37 for sign in word])


def done(house, words, numbers):
    deed = words[0]
    if deed == "put":
        return str(house.put(numbers[0], numbers[1], words[3]))
    if deed == "add":
        return str(house.add(read_rule(words[1])))
    if deed == "cut":
        house.cut(numbers[0])
    elif deed == "move":
        house.move(numbers[0], numbers[1], numbers[2])
    elif deed == "mark":
        house.mark(numbers[0], words[2])
    elif deed == "bare":
        house.bare(numbers[0], words[2])
    elif deed == "write":
        house.write(numbers[0], words[2:])
    elif deed == "dress":
        house.dress(numbers[0], read_rows(words[2]))
    elif deed == "drop":
        house.drop(numbers[0])
    else:
        house.window(read_fraction(words[1]))
    return "ok"


def asked(house, words, numbers):
    question = words[0]
    if question == "settle":
        return " / ".join([listed(some) for some in house.settle()])
    if question == "value":
        return show_value(house.value_of(numbers[0], words[2]))
    if question == "whence":
        return show_whence(house.whence_of(numbers[0], words[2]))
    if question == "counts":
        return listed(house.counts_of(numbers[0]))
    return " ".join([show_fraction(one) for one in house.place_of(numbers[0])])


def listed(some):
    return " ".join([str(one) for one in some]) if some != [] else "-"


def show_whence(whence):
    if whence is None:
        return "-"
    rule = "own" if whence[0] == -1 else str(whence[0])
    return rule + " " + str(whence[1])
