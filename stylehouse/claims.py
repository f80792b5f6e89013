"""Claims: which rows speak of a property of a box, the strongest first."""

from stylehouse.patterns import fitted, weight_of


def claims_of(tree, sheet, box, prop):
    return [one[2] for one in ranked(tree, sheet, [box])[box] if one[1] == prop]


def winner_of(tree, sheet, box, prop):
    return winners_of(tree, sheet, [box])[box].get(prop)


def winners_of(tree, sheet, boxes):
    # Of each of some boxes the winners of all properties; what has no claim is left out. All at once, since what is
    # found of a pattern for one box serves the next ones.
    found = {}
    for box, claims in ranked(tree, sheet, boxes).items():
        found[box] = {}
        for one in claims:
            found[box].setdefault(one[1], one[2])
    return found


def ranked(tree, sheet, boxes):
    # Of each box a list of tuples (rank, property, claim), the strongest first.
    found = {}
    for box in boxes:
        found[box] = own_claims(tree, box)
    for number in sheet.numbers():
        rule = sheet.rule_of(number)
        for box, weight in rule_weights(tree, rule, boxes).items():
            found[box].extend(rule_claims(number, rule, weight))
    for box in boxes:
        found[box] = sorted(found[box], key=lambda one: one[0])
    return found


def own_claims(tree, box):
    found = []
    for place, row in enumerate(tree.rows_of(box)):
        found.append(((not row[2], 0, 0, (0, 0), 0, -place), row[0], (-1, place, row[1])))
    return found


def rule_claims(number, rule, weight):
    # Ranks are tuples that compare as claims do, the stronger one being the lesser.
    found = []
    for place, row in enumerate(rule[2]):
        layer = rule[0] if row[2] else -rule[0]
        rank = (not row[2], 1, layer, (-weight[0], -weight[1]), -number, -place)
        found.append((rank, row[0], (number, place, row[1])))
    return found


def rule_weights(tree, rule, boxes):
    # Of those of some boxes that the rule fits its weight for each.
    weights = {}
    for pattern in rule[1]:
        weight = weight_of(pattern)
        for box in fitted(tree, pattern, boxes):
            weights[box] = max(weights.get(box, weight), weight)
    return weights
