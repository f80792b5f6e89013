"""Claims: which rows speak of a property of a box, the strongest first."""

from stylehouse.patterns import fits, weight_of


def claims_of(tree, sheet, box, prop):
    return [one[2] for one in ranked(tree, sheet, box) if one[1] == prop]


def winner_of(tree, sheet, box, prop):
    return winners_of(tree, sheet, box).get(prop)


def winners_of(tree, sheet, box):
    # Of all properties at once, so that each rule is asked once for a box. What has no claim is left out.
    found = {}
    for one in ranked(tree, sheet, box):
        found.setdefault(one[1], one[2])
    return found


def ranked(tree, sheet, box):
    # Tuples (rank, property, claim), the strongest first.
    found = own_claims(tree, box)
    for number in sheet.numbers():
        rule = sheet.rule_of(number)
        weight = rule_weight(tree, rule, box)
        if weight is not None:
            found.extend(rule_claims(number, rule, weight))
    return sorted(found, key=lambda one: one[0])


def own_claims(tree, box):
    found = []
    for place, row in enumerate(tree.rows_of(box)):
        found.append(((not row[2], 0, 0, (0, 0), 0, -place), row[0], (-1, place, row[1])))
    return found


def rule_claims(number, rule, weight):
    # Ranks are tuples that compare as claims do, the stronger one being the lesser.
    found = []
    for place, row in enumerate(rule[2]):
        layer = rule[0] if row[2] else -rule[0]
        rank = (not row[2], 1, layer, (-weight[0], -weight[1]), -number, -place)
        found.append((rank, row[0], (number, place, row[1])))
    return found


def rule_weight(tree, rule, box):
    # None where the rule doesn't fit the box.
    return max([weight_of(pattern) for pattern in rule[1] if fits(tree, pattern, box)], default=None)
