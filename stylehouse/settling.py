"""Settling: a tree is reckoned again, but only what something new goes into."""

from stylehouse.claims import winners_of
from stylehouse.lays import lined, natural_of, number_of, raised, spans_of
from stylehouse.memo import Memo
from stylehouse.plan import places_of, thing_heights, thing_widths, thing_wishes, width_of
from stylehouse.walks import beneath
from stylehouse.worth import kept_of, told_by


class Settling:
    def __init__(self, measure):
        self.measure = measure
        # The winners of a box stay until it is in doubt; all else that was found is found anew at each settling,
        # by the memos, which call for a reckoning only where something else goes in.
        self.winners = {}
        self.valued = Memo()
        self.measured = Memo()
        self.sized = Memo()
        self.rowed = Memo()
        self.risen = Memo()
        self.kept = {}
        self.spans = {}
        self.naturals = {}
        self.lines = {}
        self.rises = {}
        self.places = {}

    def forget(self, box):
        self.winners.pop(box, None)
        for memo in (self.valued, self.measured, self.sized, self.rowed, self.risen):
            memo.forget(box)

    def settle(self, tree, sheet, width, doubted):
        self.winners.update(winners_of(tree, sheet, doubted))
        order = [0] + beneath(tree, 0)
        self.find_values(tree, order)
        self.find_widths(tree, order, width)
        self.find_heights(tree, order)
        self.places = places_of(tree, self.lines, self.rises, width)
        return (
            list(doubted), self.valued.news(), self.measured.news(), self.sized.news(), self.rowed.news(),
            self.risen.news(),
        )

    def find_values(self, tree, order):
        self.kept = {}
        self.spans = {}
        for box in order:
            holder = tree.holder_of(box)
            self.kept[box] = self.value(box, None if holder is None else self.kept[holder])
        for box in order:
            self.spans[box] = self.span(box, tree.words_of(box))

    def find_widths(self, tree, order, width):
        self.naturals = {}
        self.lines = {}
        for box in reversed(order):
            self.naturals[box] = self.size(box, thing_widths(tree, box, self.spans, self.naturals))
        for box in order:
            wishes = thing_wishes(tree, box, self.kept, self.spans, self.naturals)
            self.lines[box] = self.line(box, width_of(tree, box, self.lines, width), wishes)

    def find_heights(self, tree, order):
        self.rises = {}
        for box in reversed(order):
            self.rises[box] = self.rise(box, thing_heights(tree, box, self.kept, self.rises))

    def value(self, box, above):
        told = told_by(self.winners[box])
        return self.valued.ask(box, (told, above), lambda: kept_of(told, above))

    def span(self, box, words):
        size = number_of(self.kept[box]["size"])
        return self.measured.ask(box, (words, size), lambda: spans_of(words, size, self.measure))

    def size(self, box, widths):
        values = self.kept[box]
        inputs = (picked(values, ("wide", "least", "most", "gap", "pad", "flow")), widths)
        return self.sized.ask(box, inputs, lambda: natural_of(values, widths))

    def line(self, box, width, wishes):
        values = self.kept[box]
        inputs = (width, picked(values, ("gap", "pad", "flow", "spread")), wishes)
        return self.rowed.ask(box, inputs, lambda: lined(values, width, wishes))

    def rise(self, box, heights):
        values = self.kept[box]
        # A copy: what a memo keeps as gone in must not be what another one keeps as reckoned.
        counts = list(self.lines[box][0])
        inputs = (picked(values, ("gap", "pad", "tall", "stand")), counts, heights)
        return self.risen.ask(box, inputs, lambda: raised(values, counts, heights))


def picked(values, props):
    return [values[prop] for prop in props]
