"""Point 39: patterns and rules as texts."""

import re
import unittest
from random import Random

from stylehouse.notes import read_value
from stylehouse.props import PROPS, is_value
from stylehouse.rulenotes import read_pattern, read_rule, show_pattern, show_rule
from test_notes import GREAT, ROW, WHOLE, NotesCase as Notes, near

NAME = "[a-z]{1,8}"
STEP = r"(?:%s|\*)(?:[.!]%s|[@^]%s(?:/[1-9][0-9]{0,29})?)*" % (NAME, NAME, WHOLE)
PATTERN = "%s(?: (?:[>+~] )?%s)*" % (STEP, STEP)
RULE = r"[0-9] %s(?:, %s)* \{ (?:%s(?:; %s)* )?\}" % (PATTERN, PATTERN, ROW, ROW)
TOLD = "3 card.big > row@2/3, *!off { wide 1/2 part; ink red ! }"


def step_by(chance):
    traits = [chance.choice((("any",), ("name", "card"), ("name", "a")))]
    for turn in range(chance.randrange(0, 5)):
        count = chance.choice((0, 1, 7, 10, GREAT))
        every = chance.choice((0, 0, 1, 3, 20, GREAT))
        traits.append(chance.choice((
            ("mark", "big"), ("not", ("mark", "off")), ("front", count, every), ("back", count, every),
        )))
    return tuple(traits)


def pattern_by(chance):
    steps = [("", step_by(chance))]
    for turn in range(chance.randrange(0, 8)):
        steps.append((chance.choice((" ", ">", "+", "~")), step_by(chance)))
    return tuple(steps)


def rows_are_rows(text):
    """Whether the rows of a text that has a rule's form have values for their properties."""
    inner = text[text.index("{") + 2:-2]
    for row in inner.split("; ") if inner else []:
        prop, rest = row.split(" ", 1)
        if not is_value(prop, read_value(rest[:-2] if rest.endswith(" !") else rest)):
            return False
    return True


class PatternTest(Notes):
    def test_there_and_back(self):
        for pattern, text in (
            ((("", (("any",),)),), "*"),
            ((("", (("name", "card"),)),), "card"),
            ((("", (("name", "card"), ("mark", "big"))),), "card.big"),
            ((("", (("any",), ("not", ("mark", "off")))),), "*!off"),
            ((("", (("any",), ("front", 2, 0))),), "*@2"),
            ((("", (("any",), ("front", 2, 3))),), "*@2/3"),
            ((("", (("any",), ("front", 2, 1))),), "*@2/1"),
            ((("", (("any",), ("back", 0, 0))),), "*^0"),
            ((("", (("any",), ("back", 5, 3))),), "*^5/3"),
            ((("", (("any",), ("back", 6, 4), ("front", 0, 2))),), "*^6/4@0/2"),
            ((("", (("name", "a"), ("not", ("mark", "b")), ("mark", "c"), ("front", 1, 0), ("mark", "c"))),), "a!b.c@1.c"),
            ((("", (("any",),)), (" ", (("any",),))), "* *"),
            ((("", (("name", "a"),)), (">", (("name", "b"),))), "a > b"),
            ((("", (("name", "a"),)), ("+", (("name", "b"),))), "a + b"),
            ((("", (("name", "a"),)), ("~", (("name", "b"),))), "a ~ b"),
            (
                (("", (("name", "a"),)), ("~", (("any",), ("mark", "x"))), (" ", (("name", "b"),)), (">", (("any",),))),
                "a ~ *.x b > *",
            ),
            ((("", (("any",), ("front", GREAT, GREAT))),), "*@" + "9" * 30 + "/" + "9" * 30),
            ((("", (("any",),)),) + (("+", (("any",),)),) * 7, "*" + " + *" * 7),
            ((("", (("any",),) + (("mark", "x"),) * 11),), "*" + ".x" * 11),
        ):
            self.there_and_back(show_pattern, read_pattern, pattern, text)

    def test_other_texts(self):
        self.refused(
            read_pattern, "", " ", "a ", " a", "a  b", "a>b", "a >b", "a> b", "> a", "a >", "a > > b", "a > + b", "a >  b",
            ">", "+", "~", "a + ", "**", "*a", "a*", ".x", "!x", "@1", "^1", "a.", "a!", "a@", "a^", "a..x", "a.!x", "a.X",
            "a.x1", "a.abcdefghi", "abcdefghi", "A", "a1", "a@01", "a@1/0", "a@1/", "a@/2", "a@1/02", "a@1/2/3", "a@x", "a@-1",
            "a@1" + "0" * 30, "a@1/1" + "0" * 30, "a, b", "a,", "a\n", "\na", "a\tb", "a\nb", "a.x\n", "a@1\n", "a { }", "a#b",
            "a:x", "a .x", "a. x", "a @1", "a@ 1", "a@1 /2", "*.*", "a.*", "a < b", "a@1!", "a^2/", "a@1/2@",
        )

    def test_patterns_by_chance(self):
        chance = Random(39)
        for turn in range(300):
            pattern = pattern_by(chance)
            text = show_pattern(pattern)
            self.assertIsNotNone(re.fullmatch(PATTERN, text))
            self.assertEqual(read_pattern(text), pattern)

    def test_near_texts(self):
        for text in ("*", "card.big", "a!b@2/3", "a > b", "a b ~ *^1", "* + a.x"):
            for other in near(text) + near(text.replace("a", "^").replace("b", "@")) + near(text.replace("a", ".")):
                self.written_as(show_pattern, read_pattern, PATTERN, other)


class RuleTest(Notes):
    def test_the_documents_own(self):
        rule = (
            3,
            (
                (("", (("name", "card"), ("mark", "big"))), (">", (("name", "row"), ("front", 2, 3)))),
                (("", (("any",), ("not", ("mark", "off")))),),
            ),
            (("wide", ("part", 1, 2), False), ("ink", ("word", "red"), True)),
        )
        self.there_and_back(show_rule, read_rule, rule, TOLD)

    def test_there_and_back(self):
        every = (("", (("any",),)),)
        for layer in range(10):
            self.there_and_back(show_rule, read_rule, (layer, (every,), ()), str(layer) + " * { }")
        self.there_and_back(
            show_rule, read_rule, (0, (every,) * 3, (("gap", ("number", 2, 4), True),)), "0 *, *, * { gap 2/4 ! }",
        )
        rows = tuple(("gap", ("number", top, 1), top > 5) for top in range(30))
        text = "7 " + ", ".join(["*"] * 12) + " { " + "; ".join(
            "gap " + str(top) + (" !" if top > 5 else "") for top in range(30)
        ) + " }"
        self.there_and_back(show_rule, read_rule, (7, (every,) * 12, rows), text)

    def test_other_texts(self):
        self.refused(
            read_rule, "", " ", "3", "3 ", "3 *", "3 * ", "3 * {", "3 * {}", "3 * { ", "3 * {  }", "3 * { } ", " 3 * { }",
            "3  * { }", "3 *  { }", "3 *{ }", "10 * { }", "03 * { }", "-1 * { }", "x * { }", "* { }", "3* { }", "3 { }",
            "3  { }", "3 a,b { }", "3 a , b { }", "3 a,  b { }", "3 a, { }", "3 , a { }", "3 a,, b { }", "3 * { gap 1 }}",
            "3 * { { gap 1 }", "3 * { gap 1}", "3 * {gap 1 }", "3 * { gap 1; }", "3 * { gap 1 ; gap 2 }", "3 * { gap 1;gap 2 }",
            "3 * { ; gap 1 }", "3 * { gap 1;  gap 2 }", "3 * { gap }", "3 * { flow 1 }", "3 * { gap red }", "3 * { gap 1 } }",
            "3 * { }{ }", "3 * { } { }", "3 * { gap 1 } { gap 1 }", "3 * { gap 1 }\n", "3\n* { }", "3 *\n{ }", "3 * {\n}",
            "3 *\t{ }", "3 > * { }", "3 * > { }", "3 A { }", "3 *;* { }", "3 * [ ]", "3 * { gap 1, gap 2 }", "3 * { gap 1 !! }",
            "3 * { gap 2/1 }", "{ }", "3 * }", "3 * { }x", "3/2 * { }",
        )

    def test_rules_by_chance(self):
        chance = Random(40)
        values = [read_value(text) for text in ("1", "2/4", "1/2 part", "3 times", "1/2 of pad", "hand", "start", "none", "red")]
        for turn in range(200):
            rows = []
            for again in range(chance.randrange(0, 4)):
                prop = chance.choice(PROPS)
                value = chance.choice([value for value in values if is_value(prop, value)])
                rows.append((prop, value, chance.random() < 0.4))
            patterns = tuple(pattern_by(chance) for again in range(chance.randrange(1, 4)))
            rule = (chance.randrange(10), patterns, tuple(rows))
            text = show_rule(rule)
            self.assertIsNotNone(re.fullmatch(RULE, text))
            self.assertEqual(read_rule(text), rule)

    def test_near_texts(self):
        for text in (TOLD, "0 * { }", "9 a, b { gap 1; pad 2 ! }", "1 a + b { ink red }"):
            for other in near(text):
                told = self.read(read_rule, other)
                due = re.fullmatch(RULE, other) is not None and rows_are_rows(other)
                with self.subTest(text=other):
                    self.assertEqual(told is not None, due)
                    if told is not None:
                        self.assertEqual(show_rule(told), other)


if __name__ == "__main__":
    unittest.main()
