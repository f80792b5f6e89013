"""The plan: a whole tree laid, box by box."""

from stylehouse.lays import lined, natural_of, number_of, raised, spans_of, wishes_of, word_wishes
from stylehouse.walks import beneath


def laid(tree, worth, width, measure=None):
    order = [0] + beneath(tree, 0)
    spans = {}
    for box in order:
        if tree.boxes_of(box) == []:
            spans[box] = spans_of(tree.words_of(box), number_of(worth[box]["size"]), measure)
    naturals = {}
    for box in reversed(order):
        naturals[box] = natural_of(worth[box], thing_widths(tree, box, spans, naturals))
    lines = {}
    for box in order:
        wishes = thing_wishes(tree, box, worth, spans, naturals)
        lines[box] = lined(worth[box], width_of(tree, box, lines, width), wishes)
    rises = {}
    for box in reversed(order):
        rises[box] = raised(worth[box], lines[box][0], thing_heights(tree, box, worth, rises))
    return places_of(tree, lines, rises, width)


def thing_widths(tree, box, spans, naturals):
    boxes = tree.boxes_of(box)
    return list(spans[box]) if boxes == [] else [naturals[one] for one in boxes]


def thing_wishes(tree, box, worth, spans, naturals):
    boxes = tree.boxes_of(box)
    if boxes == []:
        return [word_wishes(width) for width in spans[box]]
    return [wishes_of(worth[one], naturals[one]) for one in boxes]


def thing_heights(tree, box, worth, rises):
    boxes = tree.boxes_of(box)
    if boxes == []:
        return [number_of(worth[box]["size"]) for word in tree.words_of(box)]
    return [rises[one][0] for one in boxes]


def width_of(tree, box, lines, width):
    # As the holder's line says, which is laid ahead of what it holds; the root is as wide as the window.
    holder = tree.holder_of(box)
    if holder is None:
        return width
    return lines[holder][1][tree.boxes_of(holder).index(box)]


def places_of(tree, lines, rises, width):
    places = {0: ((0, 1), (0, 1), width, rises[0][0])}
    for holder in lines:
        for place, box in enumerate(tree.boxes_of(holder)):
            places[box] = (
                lines[holder][2][place], rises[holder][1][place], lines[holder][1][place], rises[holder][2][place],
            )
    return places
