"""Point 33: a memo."""

import unittest

from stylehouse.memo import Memo


class Counter:
    """A function without parameters that tells a new list each time, and how often it was called."""

    def __init__(self):
        self.calls = 0

    def reckon(self):
        self.calls += 1
        return [self.calls]


class Oddly:
    """Equal or not, as told: compared by == alone."""

    def __init__(self, same):
        self.same = same

    def __eq__(self, other):
        return self.same

    def __hash__(self):
        return 0


def never():
    raise AssertionError("it was called")


class MemoTest(unittest.TestCase):
    def test_a_new_key(self):
        memo = Memo()
        self.assertEqual(memo.ask(3, (1, 2), lambda: "told"), "told")
        self.assertEqual(memo.ask(4, (1, 2), lambda: "other"), "other")
        self.assertEqual(memo.ask(3, (1, 2), never), "told")
        self.assertEqual(memo.ask(-5, None, lambda: 7), 7)
        self.assertEqual(memo.ask(10 ** 29, [], lambda: 8), 8)

    def test_the_very_thing(self):
        memo = Memo()
        counter = Counter()
        first = memo.ask(1, [1], counter.reckon)
        self.assertIs(memo.ask(1, [1], counter.reckon), first)
        self.assertEqual(counter.calls, 1)

    def test_what_the_asker_does_to_it_is_kept(self):
        memo = Memo()
        memo.ask(1, "in", lambda: [1]).append(2)
        self.assertEqual(memo.ask(1, "in", never), [1, 2])

    def test_unequal_inputs(self):
        memo = Memo()
        counter = Counter()
        for turn, inputs in enumerate(([1], [2], [1], [1, 2], [2, 1], {}, None, 0, "", ()), start=1):
            self.assertEqual(memo.ask(1, inputs, counter.reckon), [turn])
            self.assertEqual(memo.ask(1, inputs, counter.reckon), [turn])
            self.assertEqual(counter.calls, turn)

    def test_only_the_last_inputs_are_kept(self):
        memo = Memo()
        counter = Counter()
        memo.ask(1, "a", counter.reckon)
        memo.ask(1, "b", counter.reckon)
        self.assertEqual(memo.ask(1, "a", counter.reckon), [3])

    def test_equal_inputs_that_are_other_things(self):
        memo = Memo()
        memo.ask(1, ([1, 2], {"a": (1, 2)}), lambda: "kept")
        self.assertEqual(memo.ask(1, ([1] + [2], dict(a=tuple([1, 2]))), never), "kept")

    def test_inputs_are_compared_by_equality_alone(self):
        memo = Memo()
        same = Oddly(True)
        other = Oddly(False)
        memo.ask(1, same, lambda: 1)
        self.assertEqual(memo.ask(1, same, never), 1)
        memo.ask(2, other, lambda: 1)
        self.assertEqual(memo.ask(2, other, lambda: 2), 2)

    def test_whatever_is_told_is_kept(self):
        for thing in (None, 0, "", [], (), False):
            memo = Memo()
            self.assertEqual(memo.ask(1, "in", lambda: thing), thing)
            self.assertEqual(memo.ask(1, "in", never), thing)

    def test_forget(self):
        memo = Memo()
        counter = Counter()
        memo.ask(1, "in", counter.reckon)
        memo.ask(2, "in", counter.reckon)
        memo.forget(1)
        self.assertEqual(memo.ask(1, "in", counter.reckon), [3])
        self.assertEqual(memo.ask(2, "in", counter.reckon), [2])
        memo.forget(77)
        memo.forget(1)
        memo.forget(1)
        self.assertEqual(memo.ask(1, "in", counter.reckon), [4])

    def test_news(self):
        memo = Memo()
        self.assertEqual(memo.news(), [])
        for key in (5, 3, 11, 3, -2):
            memo.ask(key, "in", lambda: key)
        self.assertEqual(memo.news(), [-2, 3, 5, 11])
        self.assertEqual(memo.news(), [])
        memo.ask(3, "in", never)
        self.assertEqual(memo.news(), [])
        memo.ask(3, "other", lambda: 0)
        memo.ask(3, "in", lambda: 0)
        self.assertEqual(memo.news(), [3])

    def test_news_of_forgotten_keys(self):
        memo = Memo()
        memo.ask(4, "in", lambda: 0)
        memo.ask(2, "in", lambda: 0)
        memo.forget(4)
        self.assertEqual(memo.news(), [2, 4])
        memo.forget(2)
        self.assertEqual(memo.news(), [])
        memo.ask(2, "in", lambda: 0)
        self.assertEqual(memo.news(), [2])

    def test_the_list_of_news_is_the_askers_own(self):
        memo = Memo()
        memo.ask(1, "in", lambda: 0)
        told = memo.news()
        told.append(9)
        memo.ask(2, "in", lambda: 0)
        self.assertEqual(told, [1, 9])
        self.assertEqual(memo.news(), [2])

    def test_two_memos_side_by_side(self):
        one = Memo()
        other = Memo()
        one.ask(1, "in", lambda: "one")
        self.assertEqual(other.news(), [])
        self.assertEqual(other.ask(1, "in", lambda: "other"), "other")
        other.forget(1)
        self.assertEqual(one.ask(1, "in", never), "one")


if __name__ == "__main__":
    unittest.main()
