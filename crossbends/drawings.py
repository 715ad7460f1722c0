"""Drawings of crosses and bends in the stair, the lines through them, and the ladders between them."""

from crossbends.basics import check_count, is_within, way_back, ways_from
from crossbends.errors import BadDrawing, Spare
from crossbends.orders import check_order, code
from crossbends.words import spare


def is_cross(many, thing):
    """Whether this is a cross of so many things."""
    if not isinstance(thing, tuple) or len(thing) != 2:
        return False
    return all(is_within(part, 0, many - 2) for part in thing) and sum(thing) <= many - 2


def is_drawing(many, thing):
    """Whether this is a drawing of so many things."""
    if not isinstance(thing, list) or not all(is_cross(many, entry) for entry in thing):
        return False
    return thing == sorted(set(thing))


def check_drawing(many, drawing):
    """Refuse what is no count, then what is no drawing of so many things."""
    check_count(many)
    if not is_drawing(many, drawing):
        raise BadDrawing("a drawing is a rising list of crosses, each once, within the stair")


def ends(many, drawing):
    """The columns above which the lines of the rows end."""
    check_drawing(many, drawing)
    lines = [line_of(drawing, row) for row in range(many)]
    return tuple([column for column, crosses in lines])


def line_of(drawing, row):
    """The column above which the line of a row ends, and the crosses that it goes through."""
    i = row
    j = 0
    to_the_right = True
    crosses = []
    while i >= 0:
        if (i, j) in drawing:
            crosses.append((i, j))
        else:
            to_the_right = not to_the_right
        if to_the_right:
            j += 1
        else:
            i -= 1
    return j, crosses


def drawing_word(many, drawing):
    """The word of the crosses' i + j, row by row from above, each from the right."""
    check_drawing(many, drawing)
    return [i + j for i, j in sorted(drawing, key=lambda cross: (cross[0], -cross[1]))]


def twice(many, drawing):
    """None of a short drawing, else two crosses at which the same two lines cross."""
    check_drawing(many, drawing)
    lines = lines_by_cross(many, drawing)
    first_cross = {}
    for cross in drawing:
        pair = lines[cross]
        if pair in first_cross:
            return (first_cross[pair], cross)
        first_cross[pair] = cross
    return None


def lines_by_cross(many, drawing):
    """The rows of the two lines, the lesser first, that go through each cross."""
    lines = {cross: () for cross in drawing}
    for row in range(many):
        column, crosses = line_of(drawing, row)
        for cross in crosses:
            lines[cross] += (row,)
    return lines


def lowest(order):
    """The drawing that has in each row, from the left, as many crosses as the code tells."""
    check_order(order)
    return [(i, j) for i, number in enumerate(code(order)) for j in range(number)]


def ladders(many, drawing):
    """The rising list of the drawings that come of this one by one ladder."""
    check_drawing(many, drawing)
    return sorted(laddered(drawing))


def laddered(drawing):
    """The drawings that come by one ladder; each takes another cross away, so none comes twice."""
    found = []
    for i, j in drawing:
        top = top_of_ladder(drawing, i, j)
        needed = [(i, j + 1), (top, j), (top, j + 1)]
        if top >= 0 and not any(cell in drawing for cell in needed):
            left = [cross for cross in drawing if cross != (i, j)]
            found.append(sorted(left + [(top, j + 1)]))
    return found


def top_of_ladder(drawing, i, j):
    """The nearest row above i without crosses in both columns, j and j + 1; -1 where there is none."""
    top = i - 1
    while (top, j) in drawing and (top, j + 1) in drawing:
        top -= 1
    return top


def drawings(order):
    """The rising list of all short drawings whose ends are the order."""
    check_order(order)
    # Ladders keep a drawing short and its ends as they are, and lead from the lowest one to all of them.
    return sorted([list(drawing) for drawing in ways_from(lowest(order), laddered)])


def climbed(many, drawing):
    """Drawings from the lowest one to this short one, each next one by a ladder."""
    word = drawing_word(many, drawing)
    if spare(many, word) is not None:
        raise Spare(0)
    bottom = lowest(ends(many, drawing))
    return way_back(ways_from(bottom, laddered), drawing)[::-1]


def terms_of(many, drawing):
    """The powers that have at each place how many crosses stand in that row."""
    check_drawing(many, drawing)
    rows = [i for i, j in drawing]
    return tuple([rows.count(row) for row in range(many)])
