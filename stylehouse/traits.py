"""Traits: what a box must be like to be meant, told as tuples, and their weights."""

from stylehouse.walks import spot_of


class Trait:
    def __init__(self, told):
        self.told = told

    def fits(self, tree, box):
        return has_trait(tree, box, self.told)

    def weight(self):
        return trait_weight(self.told)


def trait_of(told):
    return Trait(told)


def has_trait(tree, box, told):
    kind = told[0]
    if kind == "any":
        return True
    if kind == "name":
        return tree.name_of(box) == told[1]
    if kind == "mark":
        return told[1] in tree.marks_of(box)
    if kind == "not":
        return not has_trait(tree, box, told[1])
    if kind == "one":
        return any([has_trait(tree, box, one) for one in told[1]])
    spot = spot_of(tree, box)
    place = spot[0] if kind == "front" else spot[1] - spot[0] + 1
    return is_counted(place, told[1], told[2])


def is_counted(place, first, step):
    if step == 0:
        return place == first
    return place % step == first % step


def trait_weight(told):
    kind = told[0]
    if kind == "any":
        return (0, 0)
    if kind == "name":
        return (0, 1)
    if kind == "not":
        return trait_weight(told[1])
    if kind == "one":
        # Tuples compare as weights do: by the marks first, then by the names.
        return max([trait_weight(one) for one in told[1]], default=(0, 0))
    return (1, 0)
