"""Patterns: rows of steps that a chain of boxes follows, one box for each step."""

from stylehouse.traits import trait_of
from stylehouse.walks import ahead, beneath, holders_of


def ends_of(tree, pattern):
    known = {}
    order = [0] + beneath(tree, 0)
    return [[box for box in order if reaches(tree, pattern, place, box, known)] for place in range(len(pattern))]


def fits(tree, pattern, box):
    return fitted(tree, pattern, [box]) != []


def fitted(tree, pattern, boxes):
    # Those of some boxes that the pattern fits. What was found for one of them serves the next ones.
    known = {}
    return [box for box in boxes if reaches(tree, pattern, len(pattern) - 1, box, known)]


def chain_of(tree, pattern, box):
    known = {}
    if not reaches(tree, pattern, len(pattern) - 1, box, known):
        return None
    chain = [box]
    for place in range(len(pattern) - 1, 0, -1):
        chain.append(link_of(tree, pattern, place, chain[-1], known))
    return list(reversed(chain))


def weight_of(pattern):
    marks = 0
    names = 0
    for step in pattern:
        for told in step[1]:
            weight = trait_of(told).weight()
            marks += weight[0]
            names += weight[1]
    return (marks, names)


def reaches(tree, pattern, place, box, known):
    # Whether a chain of the steps up to the one at this place can end with the box. What was found is kept
    # for as long as one question is answered: else a box is asked again for each way that leads back to it.
    key = (place, box)
    if key not in known:
        known[key] = has_all(tree, box, pattern[place][1]) and (
            place == 0 or link_of(tree, pattern, place, box, known) is not None
        )
    return known[key]


def link_of(tree, pattern, place, box, known):
    # A box that may stand ahead of this one in a chain in which this one stands at the place, None where there is none.
    for one in joined_to(tree, pattern[place][0], box):
        if reaches(tree, pattern, place - 1, one, known):
            return one
    return None


def joined_to(tree, join, box):
    # The boxes to which this one stands as the join says.
    if join == " ":
        return holders_of(tree, box)
    if join == ">":
        return holders_of(tree, box)[:1]
    if join == "+":
        return ahead(tree, box)[-1:]
    return ahead(tree, box)


def has_all(tree, box, traits):
    for told in traits:
        if not trait_of(told).fits(tree, box):
            return False
    return True
