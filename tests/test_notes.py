"""Point 38: fractions, values and rows as texts."""

import re
import unittest
from math import gcd
from random import Random

from stylehouse.errors import HouseError, NoText
from stylehouse.notes import read_fraction, read_row, read_value, show_fraction, show_row, show_value
from stylehouse.props import PROPS, is_value

NUMBERS = PROPS[1:10]
GREAT = 10 ** 30 - 1
WHOLE = "(?:0|[1-9][0-9]{0,29})"
RATIO = "(?:%s(?:/(?:[2-9]|[1-9][0-9]{1,29}))?)" % WHOLE
VALUE = "(?:%s(?: part| times| of (?:%s))?|[a-z]{1,8})" % (RATIO, "|".join(NUMBERS))
ROW = "(?:%s) %s(?: !)?" % ("|".join(PROPS), VALUE)
SIGNS = " !/01290ahz.;{}~+-_\n\t"


def near(text):
    """Texts with a sign more, less, twice, or another one in its place."""
    found = {""}
    for place in range(len(text) + 1):
        found.add(text[:place] + text[place + 1:])
        found.add(text[:place] + text[place:place + 1] + text[place:])
        for sign in SIGNS:
            found.add(text[:place] + sign + text[place:])
            found.add(text[:place] + sign + text[place + 1:])
    return sorted(found)


class NotesCase(unittest.TestCase):
    def read(self, reader, text):
        """What is read of a text, None where it is refused with NoText."""
        try:
            return reader(text)
        except HouseError as error:
            self.assertIs(type(error), NoText)
            return None

    def refused(self, reader, *texts):
        for text in texts:
            with self.subTest(reader=reader.__name__, text=text):
                self.assertIsNone(self.read(reader, text))

    def there_and_back(self, show, reader, thing, text):
        with self.subTest(text=text):
            self.assertEqual(show(thing), text)
            told = reader(text)
            self.assertEqual(told, thing)
            self.assertIs(type(told), tuple)

    def written_as(self, show, reader, form, text):
        """A text is read just where it has the form, and then it is what is written of what was read."""
        told = self.read(reader, text)
        with self.subTest(reader=reader.__name__, text=text):
            self.assertEqual(told is not None, re.fullmatch(form, text) is not None)
            if told is not None:
                self.assertEqual(show(told), text)


class FractionTest(NotesCase):
    def test_there_and_back(self):
        for one, text in (
            ((0, 1), "0"), ((1, 1), "1"), ((10, 1), "10"), ((1, 2), "1/2"), ((7, 3), "7/3"), ((1, 10), "1/10"),
            ((GREAT, 1), "9" * 30), ((1, GREAT), "1/" + "9" * 30), ((GREAT, GREAT - 1), "9" * 30 + "/" + "9" * 29 + "8"),
        ):
            self.there_and_back(show_fraction, read_fraction, one, text)

    def test_as_many_figures_as_it_has(self):
        self.assertEqual(show_fraction((10 ** 999 + 1, 10 ** 999)), "1" + "0" * 998 + "1/1" + "0" * 999)
        self.assertEqual(show_fraction((10 ** 500, 1)), "1" + "0" * 500)

    def test_read_with_thirty_figures_alone(self):
        self.refused(read_fraction, "1" + "0" * 30, "1/1" + "0" * 30, "1" + "0" * 30 + "/7", "1" + "0" * 500)

    def test_not_in_lowest_terms(self):
        self.refused(read_fraction, "2/4", "0/2", "0/5", "4/2", "3/3", "10/5", "6/9", "9" * 30 + "/" + "9" * 30)

    def test_other_texts(self):
        self.refused(
            read_fraction, "", " ", "/", "1/", "/2", "2/1", "2/0", "0/1", "0/0", "04", "00", "1/02", "01/2", "+1", "-1",
            "-1/2", "1/-2", "1.5", "1 /2", "1/ 2", " 1", "1 ", "1\n", "\n1", "1\t", "1/2\n", "1//2", "1/2/3", "a", "1a",
            "half", "1_0", "1,5", "0x1", "1e3", "1/2 part",
        )

    def test_figures_of_other_scripts(self):
        self.refused(read_fraction, "\u0661", "1/\u0662", "\u00b2", "\uff11")

    def test_near_texts(self):
        for text in ("0", "7", "10", "1/2", "12/35", "100/7"):
            for other in near(text):
                told = self.read(read_fraction, other)
                due = re.fullmatch(RATIO, other) is not None
                if due:
                    parts = [int(part) for part in other.split("/")] + [1]
                    due = gcd(parts[0], parts[1]) == 1
                    if due:
                        self.assertEqual(told, (parts[0], parts[1]))
                with self.subTest(text=other):
                    self.assertEqual(told is not None, due)


class ValueTest(NotesCase):
    def test_there_and_back(self):
        for value, text in (
            (("number", 0, 1), "0"), (("number", 5, 1), "5"), (("number", 2, 4), "2/4"), (("number", 0, 7), "0/7"),
            (("part", 1, 2), "1/2 part"), (("part", 3, 1), "3 part"), (("times", 6, 4), "6/4 times"),
            (("times", 0, 1), "0 times"), (("of", "size", 1, 2), "1/2 of size"), (("of", "tall", 2, 1), "2 of tall"),
            (("hand",), "hand"), (("start",), "start"), (("word", "auto"), "auto"), (("word", "none"), "none"),
            (("word", "red"), "red"), (("word", "abcdefgh"), "abcdefgh"), (("word", "part"), "part"), (("word", "of"), "of"),
            (("word", "times"), "times"), (("word", "number"), "number"), (("word", "word"), "word"),
            (("number", GREAT, GREAT), "9" * 30 + "/" + "9" * 30), (("part", 1, GREAT), "1/" + "9" * 30 + " part"),
        ):
            self.there_and_back(show_value, read_value, value, text)
        for prop in NUMBERS:
            self.there_and_back(show_value, read_value, ("of", prop, 2, 3), "2/3 of " + prop)

    def test_kept_values_with_many_figures(self):
        self.assertEqual(show_value(("number", 10 ** 900, 7)), "1" + "0" * 900 + "/7")
        self.assertEqual(show_value(("part", 10 ** 900, 1)), "1" + "0" * 900 + " part")

    def test_other_texts(self):
        self.refused(
            read_value, "", " ", "2/1", "2/0", "04", "04 part", "1/2 Part", "1/2part", "1/2  part", "1/2 part ", " 1/2 part",
            "1/2 of", "1/2 of ", "1/2 of ink", "1/2 of flow", "1/2 of no", "1/2 of size size", "1/2 of  size", "of size",
            "1/2 parts", "1/2 time", "1/2 number", "1/2 hand", "part 1/2", "1/2 part part", "Hand", "hand ", " hand", "hand!",
            "hand\n", "red\n", "red blue", "abcdefghi", "red1", "r-d", "1 2", "1/2 of spread", "1/2 of stand", "!", "-1", "*",
            "1" + "0" * 30, "1/1" + "0" * 30 + " part", "1/2 word", "word red", "number 1 2",
        )

    def test_near_texts(self):
        for text in ("0", "2/4", "1/2 part", "3 times", "1/2 of size", "hand", "start", "auto", "red", "abcdefgh"):
            for other in near(text):
                self.written_as(show_value, read_value, VALUE, other)


class RowTest(NotesCase):
    def test_there_and_back(self):
        for row, text in (
            (("ink", ("word", "red"), False), "ink red"), (("ink", ("word", "red"), True), "ink red !"),
            (("ink", ("hand",), True), "ink hand !"), (("ink", ("start",), False), "ink start"),
            (("size", ("number", 2, 4), False), "size 2/4"), (("wide", ("part", 1, 2), True), "wide 1/2 part !"),
            (("gap", ("of", "gap", 1, 2), True), "gap 1/2 of gap !"), (("gap", ("times", 3, 1), False), "gap 3 times"),
            (("flow", ("word", "fair"), True), "flow fair !"), (("most", ("word", "none"), False), "most none"),
            (("stand", ("word", "middle"), False), "stand middle"), (("spread", ("word", "apart"), False), "spread apart"),
        ):
            self.there_and_back(show_row, read_row, row, text)
            self.assertIs(read_row(text)[2], row[2])

    def test_values_that_are_none_for_their_property(self):
        self.refused(
            read_row, "ink 1", "ink 1/2 part", "size red", "size auto", "size 1/2 part", "wide none", "most auto", "least none",
            "gap 1/2 part", "flow 1", "flow left", "flow red", "spread stack", "stand left", "tall full", "flow 1/2 of size",
            "ink 1 times", "grow none !", "pad auto !",
        )

    def test_other_texts(self):
        self.refused(
            read_row, "", " ", "ink", "ink ", "inkred", " ink red", "ink  red", "ink red ", "ink red  !", "ink red !!",
            "ink red ! ", "ink red ! !", "ink red!", "ink !", "ink  !", "!", "! ink red", "no red", "Ink red", "ink Red",
            "ink red\n", "ink\tred", "ink\nred", "ink red\t!", "ink red; size 1", "size 2/1", "size 04", "size 1/2  of gap",
            "hand", "red", "size 1 !\n",
        )

    def test_every_property_with_every_sort_of_value(self):
        texts = ("hand", "start", "1/2", "1/2 part", "1/2 times", "1/2 of gap", "auto", "none", "stack", "left", "top", "red")
        for prop in PROPS:
            for text in texts:
                for tail in ("", " !"):
                    told = self.read(read_row, prop + " " + text + tail)
                    value = read_value(text)
                    self.assertEqual(told is not None, is_value(prop, value))
                    if told is not None:
                        self.assertEqual(told, (prop, value, tail != ""))

    def test_near_texts(self):
        for text in ("ink red !", "size 2/4", "wide 1/2 part", "gap 1 of pad !", "flow row", "most none !"):
            for other in near(text):
                told = self.read(read_row, other)
                due = re.fullmatch(ROW, other) is not None
                if due:
                    prop, rest = other.split(" ", 1)
                    due = is_value(prop, read_value(rest[:-2] if rest.endswith(" !") else rest))
                with self.subTest(text=other):
                    self.assertEqual(told is not None, due)
                    if told is not None:
                        self.assertEqual(show_row(told), other)

    def test_texts_by_chance(self):
        chance = Random(38)
        for turn in range(3000):
            text = "".join(chance.choice("ink red!1/2 of size part hand;") for place in range(chance.randrange(0, 12)))
            for reader in (read_fraction, read_value, read_row):
                self.read(reader, text)


if __name__ == "__main__":
    unittest.main()
