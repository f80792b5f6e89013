"""Point 40: the desk and each of its rows."""

import unittest
from random import Random

from helper import MARKS, NAMES
from stylehouse.desk import Desk
from stylehouse.errors import (
    HouseError, NoBox, NoName, NoPlace, NoRow, NoRule, NoText, NoValue, Rooted, TooMuch, Unsettled,
)
from stylehouse.house import House
from stylehouse.notes import show_fraction, show_value
from stylehouse.props import PROPS
from stylehouse.rulenotes import show_rows, show_rule
from test_rulenotes import TOLD, pattern_by
from test_worth import value_by


class DeskCase(unittest.TestCase):
    def say(self, desk, *rows):
        """Rows and what they are answered, by turns."""
        for row, due in zip(rows[::2], rows[1::2]):
            with self.subTest(row=row):
                self.assertEqual(desk.say(row), due)

    def refused(self, error, desk, *rows):
        for row in rows:
            with self.subTest(row=row):
                with self.assertRaises(HouseError) as taken:
                    desk.say(row)
                self.assertIs(type(taken.exception), error)


def small():
    """0 holds 1 and 2; 2 holds 3. Settled."""
    desk = Desk()
    for row in ("put 0 0 a", "put 0 1 b", "put 2 0 c", "window 20", "settle"):
        desk.say(row)
    return desk


class RowsTest(DeskCase):
    def test_at_first(self):
        desk = Desk()
        self.refused(Unsettled, desk, "value 0 size", "whence 0 size", "counts 0", "place 0")
        self.say(desk, "settle", "0 / 0 / 0 / 0 / 0 / 0", "place 0", "0 0 0 0", "settle", "- / - / - / - / - / -")

    def test_put_cut_move(self):
        desk = Desk()
        self.say(
            desk, "put 0 0 a", "1", "put 0 0 b", "2", "put 1 0 abcdefgh", "3", "move 3 0 2", "ok", "move 3 0 2", "ok",
            "cut 1", "ok", "put 3 0 c", "4", "settle", "0 2 3 4 / 0 2 3 4 / 0 2 3 4 / 0 2 3 4 / 0 2 3 4 / 0 2 3 4",
        )
        self.refused(NoBox, desk, "cut 1", "put 1 0 a", "move 1 0 0", "move 2 1 0", "counts 1")

    def test_mark_and_bare(self):
        desk = small()
        self.say(
            desk, "mark 1 x", "ok", "settle", "1 2 3 / - / - / - / - / -", "mark 1 x", "ok",
            "settle", "- / - / - / - / - / -", "bare 1 x", "ok", "bare 1 y", "ok", "settle", "1 2 3 / - / - / - / - / -",
        )

    def test_write(self):
        desk = small()
        self.say(
            desk, "write 1 one two", "ok", "settle", "- / - / 1 / 0 1 / 0 1 / 0 1", "counts 1", "1 1",
            "place 1", "0 0 3 2", "write 1 one two", "ok", "settle", "- / - / - / - / - / -", "write 1", "ok",
            "settle", "- / - / 1 / 0 1 / 0 1 / 0 1", "counts 1", "-",
        )
        self.say(desk, "write 1 " + "x" * 30, "ok", "write 1" + " w" * 40, "ok", "write 1 !~#{};,./", "ok")

    def test_dress(self):
        desk = small()
        self.say(
            desk, "dress 1 { size 3/2; ink red ! }", "ok", "settle", "1 / 1 / 1 / - / - / -", "value 1 size", "3/2",
            "value 1 ink", "red", "whence 1 ink", "own 1", "dress 1 { }", "ok", "settle", "1 / 1 / 1 / - / - / -",
            "value 1 size", "1", "whence 1 ink", "-",
        )

    def test_add_and_drop(self):
        desk = small()
        self.say(
            desk, "add " + TOLD, "0", "add 1 b > c { gap 2/4; wide 1/2 part }", "1",
            "settle", "0 1 2 3 / 0 1 2 3 / - / 0 1 2 3 / 0 1 2 3 / 3",
            "value 3 gap", "1/2", "value 3 wide", "1/2 part", "whence 3 gap", "1 0", "whence 3 wide", "0 0",
            "whence 0 ink", "0 1", "value 0 ink", "red", "drop 0", "ok",
            "settle", "0 1 2 3 / 0 1 2 3 / - / 0 1 2 / 0 1 2 3 / -",
            "value 0 ink", "black", "whence 3 wide", "1 1", "add 0 * { }", "2",
        )

    def test_window(self):
        desk = small()
        self.say(
            desk, "window 20", "ok", "place 0", "0 0 20 0", "window 7/2", "ok", "settle", "- / - / - / - / 0 / -",
            "place 0", "0 0 7/2 0", "window 0", "ok", "window " + "9" * 30, "ok", "window 1/" + "9" * 30, "ok",
        )

    def test_values(self):
        desk = Desk()
        desk.say("put 0 0 a")
        desk.say("dress 0 { size 6/4; most 3 part; gap 1/3 of size; flow row !; ink hand; wide start; tall 7 times }")
        desk.say("settle")
        self.say(
            desk, "value 0 size", "3/2", "value 0 most", "3 part", "value 0 gap", "1/2", "value 0 flow", "row",
            "value 0 ink", "black", "value 0 wide", "auto", "value 0 tall", "0", "value 1 size", "3/2", "value 1 most", "none",
        )

    def test_values_with_many_figures(self):
        desk = Desk()
        desk.say("add 0 * { size " + "9" * 30 + " times }")
        for holder in range(12):
            desk.say("put " + str(holder) + " 0 a")
        desk.say("settle")
        self.say(desk, "value 12 size", str((10 ** 30 - 1) ** 13))

    def test_counts_and_places(self):
        desk = Desk()
        for row in (
            "window 10", "put 0 0 a", "put 0 1 a", "put 0 2 a", "add 0 a { wide 1/3 part; tall 2/3 }",
            "dress 0 { flow wrap; gap 1; pad 1/2 }", "settle",
        ):
            desk.say(row)
        self.say(desk, "counts 0", "2 1", "counts 1", "-", "place 0", "0 0 10 10/3", "place 2", "9/2 1/2 3 2/3", "place 3", "1/2 13/6 3 2/3")

    def test_two_desks_side_by_side(self):
        one = small()
        other = Desk()
        self.say(other, "put 0 0 a", "1", "add 0 * { }", "0")
        self.say(one, "put 0 0 a", "4", "add 0 * { gap 1 }", "0", "add 0 * { }", "1")
        self.say(other, "settle", "0 1 / 0 1 / 0 1 / 0 1 / 0 1 / 0 1", "value 0 gap", "0")


class RefusalsTest(DeskCase):
    def test_first_words(self):
        self.refused(
            NoRow, small(), "", " ", "no", "Put 0 0 a", "PUT 0 0 a", "puts 0 0 a", "put0 0 a", " put 0 0 a", "settle\n",
            "settled", "ok", "add{ }", "places 0", "set", "-", "\tsettle", "name 0", "move\t1 0 0",
        )

    def test_too_few_words(self):
        desk = small()
        for row in (
            "put", "put 0", "put 0 0", "cut", "move", "move 1", "move 1 0", "mark", "mark 1", "bare", "bare 1", "write",
            "dress", "dress 1", "add", "drop", "window", "value", "value 1", "whence", "whence 1", "counts", "place",
        ):
            self.refused(NoRow, desk, row, row + " ")

    def test_too_many_words(self):
        desk = small()
        for row in (
            "put 0 0 a", "cut 1", "move 1 0 0", "mark 1 x", "bare 1 x", "drop 0", "window 1", "settle", "value 1 size",
            "whence 1 size", "counts 1", "place 1",
        ):
            self.refused(NoRow, desk, row + " x", row + " 1", row + " ", row + "  ")

    def test_empty_words(self):
        desk = small()
        for row in (
            "put 0 0 a", "cut 1", "move 1 0 0", "mark 1 x", "bare 1 x", "drop 0", "window 1", "value 1 size",
            "whence 1 size", "counts 1", "place 1", "write 1 one two",
        ):
            for place, sign in enumerate(row):
                if sign == " ":
                    self.refused(NoRow, desk, row[:place] + " " + row[place:])
            self.refused(NoRow, desk, " " + row, row + " ")
        self.refused(NoRow, desk, "write 1 ", "write  1", "write 1  one", "dress  1 { }", " add 0 * { }", "add ", "dress 1 ")

    def test_words_that_are_no_numbers(self):
        desk = small()
        for word in ("x", "-1", "+1", "01", "00", "1.0", "1/2", "1" + "0" * 9, "9" * 30, "1\n", "\t1", "0x1", "1_0", "{"):
            self.refused(
                NoRow, desk, "put " + word + " 0 a", "put 0 " + word + " a", "cut " + word, "move " + word + " 0 0",
                "move 1 " + word + " 0", "move 1 0 " + word, "mark " + word + " x", "bare " + word + " x", "write " + word,
                "write " + word + " one", "dress " + word + " { }", "drop " + word, "value " + word + " size",
                "whence " + word + " size", "counts " + word, "place " + word,
            )

    def test_nine_figures_are_a_number(self):
        desk = small()
        self.refused(NoBox, desk, "cut 999999999", "put 999999999 0 a", "place 999999999", "move 1 999999999 0")
        self.refused(NoPlace, desk, "put 0 999999999 a", "move 1 0 999999999")
        self.refused(NoRule, desk, "drop 999999999")

    def test_words_that_no_box_has(self):
        desk = small()
        self.refused(
            NoRow, desk, "write 1 " + "x" * 31, "write 1" + " w" * 41, "write 1 one " + "x" * 31, "write 1 a\tb", "write 1 a\nb",
            "write 1 \n", "write 1 one\n", "write 1 50\x25", "write 1 \x25 one", "write 9 \x25", "write 9 " + "x" * 31,
        )
        self.say(desk, "settle", "- / - / - / - / - / -")

    def test_texts(self):
        desk = small()
        self.refused(
            NoText, desk, "window 04", "window 2/4", "window x", "window -1", "window 1/0", "window 2/1", "window 1" + "0" * 30,
            "add  3 a { }", "add 3 a { } ", "add x", "add 3 a", "add 10 a { }", "add 3 a { gap red }", "add 3 A { }", "add  ",
            "dress 1  { }", "dress 1 { } ", "dress 1 {}", "dress 1 gap 1", "dress 1 { gap red }", "dress 1 { gap 1}", "dress 1  ",
            "dress 1 { gap 1; }", "dress 1 x", "window 1\n", "add 3 a { }\n", "dress 1 { }\t",
        )
        self.say(desk, "settle", "- / - / - / - / - / -", "add 3 a { }", "0")

    def test_refusals_of_the_house(self):
        desk = small()
        self.refused(NoBox, desk, "put 9 0 a", "cut 9", "move 9 0 0", "move 1 9 0", "mark 9 x", "bare 9 x", "write 9 w", "dress 9 { }")
        self.refused(NoBox, desk, "value 9 size", "whence 9 size", "counts 9", "place 9", "value 9 no")
        self.refused(Rooted, desk, "cut 0", "move 0 1 0", "move 2 3 0", "move 2 2 0")
        self.refused(NoPlace, desk, "put 0 3 a", "move 1 0 2")
        self.refused(NoName, desk, "put 0 0 A", "put 0 0 abcdefghi", "mark 1 X", "bare 1 x1", "mark 1 a\n")
        self.refused(NoRule, desk, "drop 0")
        self.refused(NoValue, desk, "value 1 no", "whence 1 no", "value 1 Size", "value 1 size\n")
        desk.say("mark 1 x")
        self.refused(Unsettled, desk, "value 9 no", "value 1 size", "whence 1 no", "counts 9", "place 0")

    def test_too_much(self):
        desk = Desk()
        for holder in range(12):
            desk.say("put " + str(holder) + " 0 a")
        self.refused(TooMuch, desk, "put 12 0 a")
        for turn in range(40):
            desk.say("add 0 * { }")
        self.refused(TooMuch, desk, "add 0 * { }")

    def test_their_order(self):
        desk = small()
        desk.say("mark 1 x")
        # NoRow ahead of NoText and of the house's own, NoText ahead of the house's own.
        self.refused(NoRow, desk, "dress x no", "dress 9", "put 9 9 A A", "value 9", "write 9 " + "x" * 31, "window 04 1", "cut 0 0")
        self.refused(NoText, desk, "dress 9 no", "dress 9 { gap red }", "add 3 * { gap red }")
        self.refused(NoBox, desk, "dress 9 { gap 1 }", "put 9 9 A")
        self.refused(Unsettled, desk, "value 9 no")

    def test_a_refused_row_changes_nothing(self):
        desk = small()
        self.refused(NoRow, desk, "put 0 0 a b", "write 1 " + "x" * 31)
        self.refused(NoText, desk, "add x", "dress 1 x", "window 04")
        self.refused(NoName, desk, "put 0 0 A")
        self.say(desk, "place 0", "0 0 20 0", "settle", "- / - / - / - / - / -", "put 0 0 a", "4", "add 0 * { }", "0")


class LongRowsTest(DeskCase):
    """A desk answers as a house of the same deeds does."""

    def deed(self, chance, boxes):
        box = chance.choice(boxes)
        pick = chance.randrange(9)
        if pick < 3:
            return "put", (box, chance.randrange(2), chance.choice(NAMES))
        if pick < 4:
            return "move", (box, chance.choice(boxes), chance.randrange(2))
        if pick < 5:
            return chance.choice(("mark", "bare")), (box, chance.choice(MARKS))
        if pick < 6:
            return "write", (box, ["w" * chance.randrange(1, 5) for turn in range(chance.randrange(0, 4))])
        if pick < 7:
            return "cut", (box,)
        rows = tuple(
            (prop, value_by(chance, prop), chance.random() < 0.3) for prop in chance.sample(PROPS, chance.randrange(3))
        )
        if pick < 8:
            return "dress", (box, rows)
        return "add", ((chance.randrange(10), (pattern_by(chance),), rows),)

    def row(self, deed, told):
        if deed == "write":
            return " ".join(["write", str(told[0])] + told[1])
        if deed == "dress":
            return "dress " + str(told[0]) + " " + show_rows(told[1])
        if deed == "add":
            return "add " + show_rule(told[0])
        return " ".join([deed] + [str(one) for one in told])

    def answer(self, ask, *told):
        try:
            return ask(*told)
        except HouseError as error:
            return type(error)

    def test_both_alike(self):
        for seed in range(6):
            chance = Random(seed)
            desk = Desk()
            house = House((0, 1))
            self.assertEqual(desk.say("window 31/2"), "ok")
            house.window((31, 2))
            boxes = [0]
            for turn in range(80):
                deed, told = self.deed(chance, boxes)
                due = self.answer(getattr(house, deed), *told)
                answer = self.answer(desk.say, self.row(deed, told))
                if isinstance(due, type):
                    self.assertIs(answer, due)
                    continue
                self.assertEqual(answer, str(due) if deed in ("put", "add") else "ok")
                if deed == "put":
                    boxes.append(due)
                if turn % 5 == 0:
                    self.agree(desk, house, boxes)

    def agree(self, desk, house, boxes):
        lists = [" ".join(str(box) for box in some) or "-" for some in house.settle()]
        self.assertEqual(desk.say("settle"), " / ".join(lists))
        for box in boxes:
            place = self.answer(house.place_of, box)
            told = self.answer(desk.say, "place " + str(box))
            if isinstance(place, type):
                self.assertIs(told, place)
                continue
            self.assertEqual(told, " ".join(show_fraction(one) for one in place))
            for prop in PROPS:
                self.assertEqual(desk.say("value " + str(box) + " " + prop), show_value(house.value_of(box, prop)))
                whence = house.whence_of(box, prop)
                due = "-" if whence is None else ("own" if whence[0] < 0 else str(whence[0])) + " " + str(whence[1])
                self.assertEqual(desk.say("whence " + str(box) + " " + prop), due)
            counts = " ".join(str(count) for count in house.counts_of(box)) or "-"
            self.assertEqual(desk.say("counts " + str(box)), counts)


if __name__ == "__main__":
    unittest.main()
