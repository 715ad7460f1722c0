"""What several test files need."""

import copy
import itertools

FORTY = 10 ** 40 - 1
FORTY_BELOW = 1 - 10 ** 40
BIG = 1234567890123456789012345678901234567890

NO_COUNTS = [0, 6, -1, -5, FORTY, FORTY_BELOW, True, False, None, "", "3", "abc", (), (3,), [], [3], [[None]]]


def nested(depth, inner):
    """Lists and tuples by turns around what is within, so many within one another."""
    for level in range(depth):
        inner = [inner] if level & 1 else (inner,)
    return inner


NO_ORDERS = [
    (), [0, 1], [], (1,), (0, 0), (0, 2), (1, 2), (-1, 0), (0, -1), (1, 0, 1), (0, 1, 3), (0, 1, 2, 3, 4, 5),
    (True,), (False,), (True, 0), (0, True), (False, 1), (1, False), (0, "1"), (0, None), (0, (1,)), (0, [1]),
    (0, FORTY), (FORTY_BELOW, 0), ((0, 1),), ([],), ((),), "", "01", "0", None, True, False, 0, 1, FORTY,
    tuple(range(400)), list(range(400)), nested(10, 0), nested(10, None), (0, nested(9, 1)),
]


def all_orders(least=1, most=5):
    """All orders of so many things."""
    return [order for many in range(least, most + 1) for order in itertools.permutations(range(many))]


def swapped_by_hand(row, k):
    """The tuple with the entries at k and k + 1 exchanged."""
    return row[:k] + (row[k + 1], row[k]) + row[k + 2:]


def by_hand(many, word):
    """The order of a word, found by exchanges in a list."""
    row = list(range(many))
    for k in word:
        row[k], row[k + 1] = row[k + 1], row[k]
    return tuple(row)


def pairs_wrong(order):
    """How many pairs stand in the wrong order."""
    return sum(a > b for a, b in itertools.combinations(order, 2))


def all_short_words(order):
    """All short words of an order, found from its end: the last entry is a place where it falls."""
    if pairs_wrong(order) == 0:
        return [[]]
    found = []
    for k in range(len(order) - 1):
        if order[k] > order[k + 1]:
            found += [word + [k] for word in all_short_words(swapped_by_hand(order, k))]
    return sorted(found)


def small_words(many, most):
    """All words of so many things with at most so many entries."""
    for count in range(most + 1):
        for word in itertools.product(range(many - 1), repeat=count):
            yield list(word)


def no_words(many):
    """What is no word of so many things."""
    entries = [many - 1, many, 5, -1, FORTY, FORTY_BELOW, True, False, None, "", "0", [0], (0,), [], (), nested(9, 0)]
    wrong = [[entry] for entry in entries]
    wrong += [(), (0,), (0, 1), "", "0", "01", None, True, False, 0, 1, FORTY, nested(10, 0), ((),), [None] * 400]
    wrong += [[0] * 31, [0] * 32, [0] * 400, [0] * 30 + [None]]
    if many > 1:
        wrong += [[0, entry] for entry in entries] + [[0] * 29 + [entry] for entry in entries]
    return wrong


def naive(terms):
    """Terms added up, greater powers first."""
    sums = {}
    for powers, number in terms:
        sums[powers] = sums.get(powers, 0) + number
    return sorted([(powers, number) for powers, number in sums.items() if number], reverse=True)


def naive_product(one, other):
    return naive([
        (tuple(a + b for a, b in zip(powers, others)), number * factor)
        for powers, number in one for others, factor in other
    ])


def naive_at(some, point):
    total = 0
    for powers, number in some:
        for power, worth in zip(powers, point):
            number *= worth ** power
        total += number
    return total


def full(many, weight, number=1):
    """A polynomial with all powers up to a weight, and numbers of both signs."""
    terms = []
    for powers in itertools.product(range(weight + 1), repeat=many):
        if sum(powers) <= weight:
            sign = -1 if len(terms) % 3 == 0 else 1
            terms.append((powers, sign * (number + len(terms))))
    return naive(terms)


def some_polynomials(many):
    """Some polynomials of so many unknowns, none of a weight above 10."""
    ones = [tuple(int(place == at_place) for place in range(many)) for at_place in range(many)]
    return [
        [],
        [((0,) * many, 1)],
        [((0,) * many, -7)],
        naive([(ones[0], 1), (ones[-1], -1), ((0,) * many, 3)]),
        naive([(powers, BIG) for powers in ones] + [((2,) * many, -BIG)]),
        naive([((10,) + (0,) * (many - 1), -1), ((0,) * (many - 1) + (10,), 2)]),
        full(many, 3),
        full(many, 2, -BIG),
    ]


def unknown(many, k):
    """The powers of x(k)."""
    return tuple(int(place == k) for place in range(many))


def differed_by_hand(some, k):
    """Each term by itself: x^a y^b with a above b is x^(a-1) y^b + .. + x^b y^(a-1)."""
    terms = []
    for powers, number in some:
        low, high = sorted(powers[k:k + 2])
        for power in range(low, high):
            sign = 1 if powers[k] > powers[k + 1] else -1
            terms.append((powers[:k] + (power, low + high - 1 - power) + powers[k + 2:], sign * number))
    return naive(terms)


def raised_by_hand(some, k):
    many = len(some[0][0]) if some else 1
    return differed_by_hand(naive_product(some, [(unknown(many, k), 1)]), k)


def along_by_hand(step, some, word):
    for k in word[::-1]:
        some = step(some, k)
    return some


def beneath(many):
    """All powers beneath the stair."""
    return list(itertools.product(*(range(many - place) for place in range(many))))


def stair_cells(many):
    """All cells that may be crosses, in rising order."""
    return [(i, j) for i in range(many) for j in range(many) if i + j <= many - 2]


def all_drawings(many):
    """All drawings of so many things."""
    cells = stair_cells(many)
    return [list(drawing) for count in range(len(cells) + 1) for drawing in itertools.combinations(cells, count)]


def drawn(many, drawing):
    """The columns at which the lines end, and the two lines at each cross, found row by row from below."""
    upward = {}
    lines = {}
    for i in range(many - 1, -1, -1):
        rightward = i
        for j in range(many - i):
            if (i, j) in drawing:
                lines[i, j] = {rightward, upward[j]}
            else:
                rightward, upward[j] = upward.get(j), rightward
    column = {line: j for j, line in upward.items()}
    return tuple(column[line] for line in range(many)), lines


def sums_by_drawings(many, shifts):
    """The polynomial of each order with these shifts, from all drawings in which no two lines cross twice."""
    terms = {}
    for drawing in all_drawings(many):
        order = drawn(many, drawing)[0]
        if pairs_wrong(order) == len(drawing):
            product = [((0,) * many, 1)]
            for i, j in drawing:
                product = naive_product(product, [(unknown(many, i), 1), ((0,) * many, -shifts[j])])
            terms[order] = terms.get(order, []) + product
    return {order: naive(terms[order]) for order in terms}


def added_up(pairs, told):
    """The polynomials that are told of the orders of tuples (order, number), so often, added up."""
    return naive([(powers, number * often) for order, often in pairs for powers, number in told(order)])


def all_lists(thing):
    """All lists within an answer, the answer itself too."""
    if not isinstance(thing, (list, tuple)):
        return []
    found = [thing] if isinstance(thing, list) else []
    for entry in thing:
        found += all_lists(entry)
    return found


def spoil(thing):
    """Change all lists within an answer."""
    for entry in all_lists(thing):
        entry.reverse()
        entry.append("spoilt")


def check_own(case, function, *asked):
    """What is handed in stays, and what is told is the asker's own."""
    before = copy.deepcopy(asked)
    told = function(*asked)
    case.assertEqual(before, asked)
    kept = copy.deepcopy(told)
    lists = all_lists(told)
    case.assertEqual(len(lists), len({id(entry) for entry in lists}))
    handed = {id(entry) for entry in all_lists(asked)}
    case.assertFalse(handed & {id(entry) for entry in lists})
    spoil(told)
    case.assertEqual(before, asked)
    again = function(*asked)
    case.assertEqual(kept, again)
    spoil(asked)
    case.assertEqual(kept, again)


def check_refused(case, refusal, function, *asked):
    """Just this refusal is told, and nothing that was handed in is changed."""
    before = copy.deepcopy(asked)
    with case.assertRaises(refusal) as caught:
        function(*asked)
    case.assertIs(type(caught.exception), refusal)
    case.assertEqual(repr(before), repr(asked))
    return caught.exception
