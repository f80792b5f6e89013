"""A sheet of rules, each with a number that no other one gets."""

from stylehouse.errors import NoRule, NoValue, TooMuch
from stylehouse.props import is_value

MOST_RULES = 40


class Sheet:
    def __init__(self):
        # How many numbers were given so far: a number isn't given again where its rule was dropped.
        self.given = 0
        self.rules = {}

    def check(self, number):
        if number not in self.rules:
            raise NoRule("there is no such rule")

    def add(self, rule):
        if not 0 <= rule[0] <= 9 or len(rule[1]) == 0:
            raise NoRule("a rule has a layer from 0 to 9 and at least one pattern")
        check_rows(rule[2])
        if len(self.rules) + 1 > MOST_RULES:
            raise TooMuch("no more rules may stand")
        number = self.given
        self.given = number + 1
        self.rules[number] = rule
        return number

    def drop(self, number):
        self.check(number)
        return self.rules.pop(number)

    def rule_of(self, number):
        self.check(number)
        return self.rules[number]

    def numbers(self):
        return sorted(self.rules)


def check_rows(rows):
    for row in rows:
        if not is_value(row[0], row[1]):
            raise NoValue("a row has a value for its property")
