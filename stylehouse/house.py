"""A house: a tree, a sheet and a window, changed by deeds and laid at each settling."""

from stylehouse.claims import rule_weights
from stylehouse.errors import NoBox, Unsettled
from stylehouse.props import check_prop
from stylehouse.settling import Settling
from stylehouse.sheet import Sheet, check_rows
from stylehouse.tree import Tree
from stylehouse.walks import beneath, behind


class House:
    def __init__(self, width, measure=None):
        self.tree = Tree("house")
        self.sheet = Sheet()
        self.width = width
        self.settling = Settling(measure)
        self.settled = False
        self.doubts = {0: True}

    def doubt(self, boxes):
        # Whatever changes something comes here, also where no box is in doubt by it.
        self.settled = False
        for box in boxes:
            self.doubts[box] = True

    def put(self, holder, place, name):
        box = self.tree.put(holder, place, name)
        self.doubt(beneath(self.tree, holder))
        return box

    def cut(self, box):
        holder = self.tree.holder_of(box)
        gone = self.tree.cut(box)
        for one in gone:
            self.doubts.pop(one, None)
            self.settling.forget(one)
        self.doubt(beneath(self.tree, holder))
        return gone

    def move(self, box, holder, place):
        former = self.tree.holder_of(box)
        changed = self.tree.move(box, holder, place)
        if changed:
            self.doubt(beneath(self.tree, former) + beneath(self.tree, holder))
        return changed

    def mark(self, box, word):
        changed = self.tree.mark(box, word)
        if changed:
            self.doubt_from(box)
        return changed

    def bare(self, box, word):
        changed = self.tree.bare(box, word)
        if changed:
            self.doubt_from(box)
        return changed

    def doubt_from(self, box):
        for one in [box] + behind(self.tree, box):
            self.doubt([one] + beneath(self.tree, one))

    def write(self, box, words):
        changed = self.tree.write(box, words)
        if changed:
            self.doubt([])
        return changed

    def dress(self, box, rows):
        if not self.tree.stands(box):
            raise NoBox("there is no such box")
        check_rows(rows)
        changed = self.tree.dress(box, rows)
        if changed:
            self.doubt([box])
        return changed

    def add(self, rule):
        number = self.sheet.add(rule)
        self.doubt_by(rule)
        return number

    def drop(self, number):
        rule = self.sheet.drop(number)
        self.doubt_by(rule)
        return rule

    def doubt_by(self, rule):
        self.doubt(list(rule_weights(self.tree, rule, [0] + beneath(self.tree, 0))))

    def window(self, width):
        if self.width == width:
            return False
        self.width = width
        self.doubt([])
        return True

    def settle(self):
        told = self.settling.settle(self.tree, self.sheet, self.width, sorted(self.doubts))
        self.doubts = {}
        self.settled = True
        return told

    def check(self, box):
        if not self.settled:
            raise Unsettled("the house is not settled")
        if not self.tree.stands(box):
            raise NoBox("there is no such box")

    def value_of(self, box, prop):
        self.check(box)
        check_prop(prop)
        return self.settling.kept[box][prop]

    def whence_of(self, box, prop):
        self.check(box)
        check_prop(prop)
        winner = self.settling.winners[box].get(prop)
        return None if winner is None else (winner[0], winner[1])

    def spans_of(self, box):
        self.check(box)
        return list(self.settling.spans[box])

    def natural_of(self, box):
        self.check(box)
        return self.settling.naturals[box]

    def counts_of(self, box):
        self.check(box)
        return list(self.settling.lines[box][0])

    def height_of(self, box):
        self.check(box)
        return self.settling.rises[box][0]

    def place_of(self, box):
        self.check(box)
        return self.settling.places[box]
