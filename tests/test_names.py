"""Point 6: what is a name."""

import unittest

from stylehouse.names import is_name

LETTERS = "abcdefghijklmnopqrstuvwxyz"


class NamesTest(unittest.TestCase):
    def told(self, thing, answer):
        with self.subTest(thing=thing):
            self.assertIs(is_name(thing), answer)

    def test_each_letter_alone(self):
        for letter in LETTERS:
            self.told(letter, True)

    def test_every_length_up_to_eight(self):
        for length in range(1, 9):
            self.told("z" * length, True)
            self.told(LETTERS[:length], True)
            self.told(LETTERS[-length:], True)

    def test_words_that_mean_something_elsewhere(self):
        for word in ("house", "hand", "start", "auto", "none", "of", "part", "times"):
            self.told(word, True)

    def test_no_letter_and_more_than_eight(self):
        self.told("", False)
        self.told("a" * 9, False)
        self.told("abcdefghi", False)
        self.told("a" * 300, False)

    def test_each_other_sign_at_each_place(self):
        signs = [chr(code) for code in range(0, 128) if chr(code) not in LETTERS]
        self.assertEqual(len(signs), 102)
        for sign in signs:
            for text in (sign, sign + "ab", "a" + sign + "b", "ab" + sign, "abcdefg" + sign):
                self.told(text, False)

    def test_line_ends_and_tabs_at_the_end_of_a_full_name(self):
        for tail in ("\n", "\t", "\r", "\r\n", " ", "\x0b", "\x0c"):
            self.told("name" + tail, False)
            self.told("abcdefgh" + tail, False)
            self.told(tail + "name", False)

    def test_letters_beyond_z(self):
        for sign in "\u00e9\u00df\u00aa\u0131\u017f\u0430\uff41\U0001d41a":
            self.told(sign, False)
            self.told("a" + sign, False)

    def test_things_that_are_no_texts(self):
        things = (
            None, 0, 1, -1, 10 ** 40, True, False, [], ["a"], ["name"], list("name"), (), ("a",), ("name",),
            {}, {"a": "b"}, {"name": 1}, set(), {"a"}, b"", b"name", 1.5, object(), str, is_name,
        )
        for thing in things:
            self.told(thing, False)

    def test_lists_and_dicts_stay_as_they_were(self):
        some = ["a", "b"]
        other = {"a": 1}
        is_name(some)
        is_name(other)
        self.assertEqual(some, ["a", "b"])
        self.assertEqual(other, {"a": 1})


if __name__ == "__main__":
    unittest.main()
