"""Walks over a tree: what lies beneath and behind a box, and where it stands.

They ask the tree alone, which refuses with NoBox what is no standing box.
"""


def beneath(tree, box):
    found = []
    left = list(reversed(tree.boxes_of(box)))
    while left:
        one = left.pop()
        found.append(one)
        left.extend(list(reversed(tree.boxes_of(one))))
    return found


def row_of(tree, box):
    # The root stands in no holder's row, so it counts as a row of its own.
    holder = tree.holder_of(box)
    return [box] if holder is None else tree.boxes_of(holder)


def behind(tree, box):
    row = row_of(tree, box)
    return row[row.index(box) + 1:]


def ahead(tree, box):
    row = row_of(tree, box)
    return row[:row.index(box)]


def holders_of(tree, box):
    # The nearest first.
    found = []
    holder = tree.holder_of(box)
    while holder is not None:
        found.append(holder)
        holder = tree.holder_of(holder)
    return found


def depth_of(tree, box):
    return len(holders_of(tree, box))


def spot_of(tree, box):
    row = row_of(tree, box)
    return (row.index(box) + 1, len(row))


def gathered(tree, box, keep):
    return [one for one in [box] + beneath(tree, box) if keep(one)]
