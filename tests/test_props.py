"""Points 15 and 16: the properties, their starts and their values."""

import unittest

from stylehouse.errors import HouseError, NoValue
from stylehouse.props import PROPS, is_handed, is_value, start_of

DUE = (
    ("ink", ("word", "black")), ("size", ("number", 1, 1)), ("wide", ("word", "auto")), ("least", ("number", 0, 1)),
    ("most", ("word", "none")), ("grow", ("number", 0, 1)), ("shrink", ("number", 1, 1)), ("gap", ("number", 0, 1)),
    ("pad", ("number", 0, 1)), ("tall", ("number", 0, 1)), ("flow", ("word", "stack")), ("spread", ("word", "left")),
    ("stand", ("word", "top")),
)
NUMBERS = ("size", "wide", "least", "most", "grow", "shrink", "gap", "pad", "tall")
PARTS = ("wide", "least", "most")
WORDS = {
    "wide": ("auto",), "most": ("none",), "flow": ("stack", "row", "wrap", "fair"),
    "spread": ("left", "middle", "right", "apart"), "stand": ("top", "middle", "bottom", "full"),
}
NO_PROPS = ("", "Ink", "inks", "in", "ink ", " ink", "hand", "start", "number", "width", "size\n", "black", "0")
MOST = 10 ** 30 - 1


class PropsCase(unittest.TestCase):
    def told(self, value, props):
        for prop in PROPS:
            with self.subTest(prop=prop, value=value):
                self.assertIs(is_value(prop, value), prop in props)
        for prop in NO_PROPS:
            with self.subTest(prop=prop, value=value):
                self.assertIs(is_value(prop, value), False)


class PropsTest(PropsCase):
    def test_their_order(self):
        self.assertIs(type(PROPS), tuple)
        self.assertEqual(PROPS, tuple(prop for prop, start in DUE))

    def test_starts(self):
        for prop, start in DUE:
            with self.subTest(prop=prop):
                self.assertEqual(start_of(prop), start)
                self.assertIs(type(start_of(prop)), tuple)
                self.assertIs(is_value(prop, start), True)

    def test_what_is_handed_down(self):
        for prop in PROPS:
            with self.subTest(prop=prop):
                self.assertIs(is_handed(prop), prop in ("ink", "size"))

    def test_what_is_no_property(self):
        for prop in NO_PROPS:
            for ask in (start_of, is_handed):
                with self.subTest(prop=prop, ask=ask.__name__):
                    with self.assertRaises(HouseError) as taken:
                        ask(prop)
                    self.assertIs(type(taken.exception), NoValue)


class ValuesTest(PropsCase):
    def test_hand_and_start(self):
        self.told(("hand",), PROPS)
        self.told(("start",), PROPS)
        for value in (("hand", "hand"), ("start", 1), ("hand", ""), ("Hand",), ("start ",), ("hand", 1, 1)):
            self.told(value, ())

    def test_number_and_times(self):
        for word in ("number", "times"):
            for top, bottom in ((0, 1), (1, 1), (2, 4), (0, 7), (7, 3), (MOST, 1), (0, MOST), (MOST, MOST)):
                self.told((word, top, bottom), NUMBERS)

    def test_part(self):
        for top, bottom in ((0, 1), (1, 1), (2, 4), (0, 7), (7, 3), (MOST, 1), (0, MOST), (MOST, MOST)):
            self.told(("part", top, bottom), PARTS)

    def test_of(self):
        for prop in NUMBERS:
            for top, bottom in ((0, 1), (1, 1), (2, 4), (MOST, 1), (0, MOST)):
                self.told(("of", prop, top, bottom), NUMBERS)
        for prop in ("ink", "flow", "spread", "stand", "", "no", "hand", 0, 5) + NO_PROPS:
            self.told(("of", prop, 1, 1), ())

    def test_tops_and_bottoms_that_are_none(self):
        wrong = (
            (-1, 1), (-MOST, 1), (1, 0), (0, 0), (1, -1), (-1, -1), (1, -MOST), (MOST + 1, 1), (1, MOST + 1),
            (10 ** 31, 1), (0, 10 ** 31), (10 ** 700, 1), (1, 10 ** 700), (10 ** 700, 10 ** 700), (-(10 ** 700), 1),
            (1, -(10 ** 700)), ("1", 1), (1, "1"), ("", 1), (1, ""), ("a", "b"), (True, 1), (1, True),
        )
        for top, bottom in wrong:
            for word in ("number", "times", "part"):
                self.told((word, top, bottom), ())
            self.told(("of", "size", top, bottom), ())

    def test_a_thing_more_or_less(self):
        for word in ("number", "times", "part"):
            for value in ((word,), (word, 1), (word, 1, 1, 1), (word, 1, 1, "")):
                self.told(value, ())
        for value in (
            ("of",), ("of", "size"), ("of", "size", 1), ("of", "size", 1, 1, 1), ("of", 1, 1), ("of", 1, "size", 1),
            ("word",), ("word", "black", "black"), ("word", "black", 1), ("word", "auto", "none"),
        ):
            self.told(value, ())

    def test_of_other_things(self):
        for value in (
            (), ("",), (0,), (1, 1), (1, 1, 1), (0, "black"), ("black",), ("auto",), ("none",), ("stack",),
            ("Number", 1, 1), ("numbers", 1, 1), ("", 1, 1), ("", "size", 1, 1), (2, "size", 1, 1), ("words", "red"),
            ("number", "word", "none"), ("size", 1, 1), ("word", 1), ("word", 0), ("word", -1), (10 ** 700,),
        ):
            self.told(value, ())

    def test_words(self):
        for prop, words in WORDS.items():
            for word in words:
                due = tuple(other for other in WORDS if word in WORDS[other]) + ("ink",)
                self.told(("word", word), due)

    def test_ink(self):
        for word in ("black", "red", "a", "abcdefgh", "house", "zz", "word", "number", "of", "ink"):
            self.told(("word", word), ("ink",))
        for word in ("hand", "start", "", "Red", "abcdefghi", "r d", "red1", "red\n", "0", "-"):
            self.told(("word", word), ())

    def test_words_of_no_property(self):
        for word in ("autos", "nones", "stacks", "tops", "lefts"):
            self.told(("word", word), ("ink",))
        for word in ("Auto", "AUTO", "none ", " stack", "row,"):
            self.told(("word", word), ())


if __name__ == "__main__":
    unittest.main()
