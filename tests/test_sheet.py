"""Point 17, with point 2: a sheet and its rules."""

import unittest

from stylehouse.errors import HouseError, NoRule, NoValue, TooMuch
from stylehouse.sheet import MOST_RULES, Sheet

PATTERN = (("", (("any",),)),)
ROW = ("size", ("number", 1, 2), False)
WRONG = ("size", ("word", "red"), False)
RULE = (3, (PATTERN,), (ROW,))
GREAT = 10 ** 30 - 1


def all_of(sheet):
    return [(number, sheet.rule_of(number)) for number in sheet.numbers()]


class SheetCase(unittest.TestCase):
    def refused(self, error, sheet, deed, told):
        before = all_of(sheet)
        with self.subTest(deed=deed, told=told):
            with self.assertRaises(HouseError) as taken:
                getattr(sheet, deed)(told)
            self.assertIs(type(taken.exception), error)
            self.assertEqual(all_of(sheet), before)


def full():
    sheet = Sheet()
    for number in range(MOST_RULES):
        assert sheet.add(RULE) == number
    return sheet


class NumbersTest(SheetCase):
    def test_an_empty_sheet(self):
        self.assertEqual(MOST_RULES, 40)
        self.assertEqual(Sheet().numbers(), [])
        self.refused(NoRule, Sheet(), "rule_of", 0)

    def test_numbers_go_on(self):
        sheet = Sheet()
        rules = [(layer, (PATTERN,), ()) for layer in range(5)]
        self.assertEqual([sheet.add(rule) for rule in rules], [0, 1, 2, 3, 4])
        self.assertEqual(sheet.numbers(), [0, 1, 2, 3, 4])
        self.assertEqual([sheet.rule_of(number) for number in range(5)], rules)

    def test_no_number_twice_behind_drops(self):
        sheet = Sheet()
        other = (4, (PATTERN, PATTERN), (ROW, ROW))
        sheet.add(RULE)
        sheet.add(other)
        self.assertEqual(sheet.drop(1), other)
        self.assertEqual(sheet.add(RULE), 2)
        self.assertEqual(sheet.drop(0), RULE)
        self.assertEqual(sheet.drop(2), RULE)
        self.assertEqual(sheet.numbers(), [])
        self.assertEqual(sheet.add(other), 3)
        self.assertEqual(all_of(sheet), [(3, other)])

    def test_no_number_spent_by_a_refused_rule(self):
        sheet = Sheet()
        sheet.add(RULE)
        self.refused(NoRule, sheet, "add", (10, (PATTERN,), (ROW,)))
        self.refused(NoValue, sheet, "add", (1, (PATTERN,), (WRONG,)))
        self.assertEqual(sheet.add(RULE), 1)

    def test_two_sheets_side_by_side(self):
        one = Sheet()
        other = Sheet()
        one.add(RULE)
        one.add(RULE)
        self.assertEqual(other.numbers(), [])
        self.assertEqual(other.add(RULE), 0)
        other.drop(0)
        self.assertEqual(one.numbers(), [0, 1])

    def test_the_same_rule_twice(self):
        sheet = Sheet()
        self.assertEqual([sheet.add(RULE), sheet.add(RULE)], [0, 1])

    def test_numbers_told_are_the_askers_own(self):
        sheet = Sheet()
        sheet.add(RULE)
        sheet.add(RULE)
        told = sheet.numbers()
        told.append(7)
        told.pop(0)
        self.assertEqual(sheet.numbers(), [0, 1])
        kept = sheet.numbers()
        sheet.drop(0)
        sheet.add(RULE)
        self.assertEqual(kept, [0, 1])
        self.assertEqual(sheet.numbers(), [1, 2])


class RefusalsTest(SheetCase):
    def test_layers(self):
        sheet = Sheet()
        for layer in range(10):
            self.assertEqual(sheet.add((layer, (PATTERN,), (ROW,))), layer)
        for layer in (-1, 10, 11, -GREAT, GREAT):
            self.refused(NoRule, sheet, "add", (layer, (PATTERN,), (ROW,)))

    def test_no_pattern(self):
        self.refused(NoRule, Sheet(), "add", (0, (), (ROW,)))
        self.refused(NoRule, Sheet(), "add", (0, (), ()))

    def test_no_rows_are_fine(self):
        sheet = Sheet()
        self.assertEqual(sheet.add((0, (PATTERN,), ())), 0)
        self.assertEqual(sheet.rule_of(0), (0, (PATTERN,), ()))

    def test_thirty_rows_and_twelve_patterns(self):
        rule = (9, (PATTERN,) * 12, (ROW,) * 30)
        sheet = Sheet()
        sheet.add(rule)
        self.assertEqual(sheet.rule_of(0), rule)

    def test_values(self):
        for row in (
            WRONG, ("no", ("number", 1, 1), False), ("flow", ("number", 1, 1), True), ("gap", ("part", 1, 2), False),
            ("size", ("number", 1, 0), False), ("size", (), False), ("", ("hand",), False),
            ("ink", ("word", "hand"), True), ("size", ("number", 10 ** 30, 1), False),
        ):
            for rows in ((row,), (ROW, row), (row, ROW), (ROW,) * 29 + (row,)):
                self.refused(NoValue, Sheet(), "add", (0, (PATTERN,), rows))

    def test_forty_and_one_more(self):
        sheet = full()
        self.refused(TooMuch, sheet, "add", RULE)
        sheet.drop(5)
        self.assertEqual(sheet.add(RULE), 40)
        self.refused(TooMuch, sheet, "add", RULE)
        self.assertEqual(len(sheet.numbers()), 40)

    def test_their_order(self):
        sheet = full()
        self.refused(NoRule, sheet, "add", (10, (PATTERN,), (WRONG,)))
        self.refused(NoRule, sheet, "add", (1, (), (WRONG,)))
        self.refused(NoRule, sheet, "add", (10, (PATTERN,), (ROW,)))
        self.refused(NoValue, sheet, "add", (1, (PATTERN,), (WRONG,)))
        self.refused(TooMuch, sheet, "add", (1, (PATTERN,), (ROW,)))
        self.refused(NoRule, Sheet(), "add", (-1, (), (WRONG,)))

    def test_numbers_of_no_standing_rule(self):
        sheet = Sheet()
        sheet.add(RULE)
        sheet.add(RULE)
        sheet.drop(0)
        for number in (0, 2, 3, 40, -1, -2, GREAT, -GREAT):
            self.refused(NoRule, sheet, "drop", number)
            self.refused(NoRule, sheet, "rule_of", number)
        self.assertEqual(sheet.numbers(), [1])


if __name__ == "__main__":
    unittest.main()
