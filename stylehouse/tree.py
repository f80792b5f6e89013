"""A tree of boxes with names, marks, words and rows of their own."""

from stylehouse.errors import NoBox, NoName, NoPlace, Rooted, TooMuch
from stylehouse.names import is_name
from stylehouse.walks import beneath, depth_of

MOST_BOXES = 90
MOST_DEEP = 12
ROOT = 0


class Tree:
    def __init__(self, name):
        check_name(name)
        # How many numbers were given so far: a number isn't given again where its box is gone.
        self.given = 0
        self.names = {}
        self.holders = {}
        self.boxes = {}
        self.marks = {}
        self.words = {}
        self.rows = {}
        self.enter(None, name)

    def enter(self, holder, name):
        box = self.given
        self.given = box + 1
        self.names[box] = name
        self.holders[box] = holder
        self.boxes[box] = []
        self.marks[box] = {}
        self.words[box] = []
        self.rows[box] = ()
        return box

    def check(self, box):
        if box not in self.names:
            raise NoBox("there is no such box")

    def put(self, holder, place, name):
        self.check(holder)
        check_place(place, self.boxes[holder])
        check_name(name)
        if len(self.names) + 1 > MOST_BOXES:
            raise TooMuch("no more boxes may stand")
        if depth_of(self, holder) + 1 > MOST_DEEP:
            raise TooMuch("the box would stand too deep")
        box = self.enter(holder, name)
        self.boxes[holder].insert(place, box)
        return box

    def cut(self, box):
        self.check(box)
        if box == ROOT:
            raise Rooted("the root is not cut out")
        gone = [box] + beneath(self, box)
        self.boxes[self.holders[box]].remove(box)
        for one in gone:
            for store in (self.names, self.holders, self.boxes, self.marks, self.words, self.rows):
                store.pop(one)
        return gone

    def move(self, box, holder, place):
        self.check(box)
        self.check(holder)
        under = beneath(self, box)
        if box == ROOT or holder == box or holder in under:
            raise Rooted("a box is not moved beneath itself, nor the root at all")
        row = [one for one in self.boxes[holder] if one != box]
        check_place(place, row)
        lowest = max([depth_of(self, one) for one in [box] + under])
        if depth_of(self, holder) + 1 + lowest - depth_of(self, box) > MOST_DEEP:
            raise TooMuch("a box would stand too deep")
        row.insert(place, box)
        if row == self.boxes[holder]:
            return False
        self.boxes[self.holders[box]].remove(box)
        self.boxes[holder] = row
        self.holders[box] = holder
        return True

    def mark(self, box, word):
        self.check(box)
        check_name(word)
        if word in self.marks[box]:
            return False
        self.marks[box][word] = True
        return True

    def bare(self, box, word):
        self.check(box)
        check_name(word)
        if word not in self.marks[box]:
            return False
        self.marks[box].pop(word)
        return True

    def write(self, box, words):
        self.check(box)
        if self.words[box] == words:
            return False
        self.words[box] = list(words)
        return True

    def dress(self, box, rows):
        self.check(box)
        if self.rows[box] == rows:
            return False
        self.rows[box] = rows
        return True

    def stands(self, box):
        return box in self.names

    def name_of(self, box):
        self.check(box)
        return self.names[box]

    def marks_of(self, box):
        self.check(box)
        return sorted(self.marks[box])

    def words_of(self, box):
        self.check(box)
        return list(self.words[box])

    def rows_of(self, box):
        self.check(box)
        return self.rows[box]

    def holder_of(self, box):
        self.check(box)
        return self.holders[box]

    def boxes_of(self, box):
        self.check(box)
        return list(self.boxes[box])


def check_name(name):
    if not is_name(name):
        raise NoName("a name has one to eight letters from a to z")


def check_place(place, row):
    if not 0 <= place <= len(row):
        raise NoPlace("there is no such place in the row")
