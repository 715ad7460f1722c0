"""What several test files need."""

import copy
import itertools

FORTY = 10 ** 40 - 1
FORTY_BELOW = 1 - 10 ** 40

NO_COUNTS = [0, 6, -1, -5, FORTY, FORTY_BELOW, True, False, None, "", "3", "abc", (), (3,), [], [3], [[None]]]


def nested(depth, inner):
    """Lists and tuples by turns around what is within, so many within one another."""
    for level in range(depth):
        inner = [inner] if level & 1 else (inner,)
    return inner


NO_ORDERS = [
    (), [0, 1], [], (1,), (0, 0), (0, 2), (1, 2), (-1, 0), (0, -1), (1, 0, 1), (0, 1, 3), (0, 1, 2, 3, 4, 5),
    (True,), (False,), (True, 0), (0, True), (False, 1), (1, False), (0, "1"), (0, None), (0, (1,)), (0, [1]),
    (0, FORTY), (FORTY_BELOW, 0), ((0, 1),), ([],), ((),), "", "01", "0", None, True, False, 0, 1, FORTY,
    tuple(range(400)), list(range(400)), nested(10, 0), nested(10, None), (0, nested(9, 1)),
]


def all_orders(least=1, most=5):
    """All orders of so many things."""
    return [order for many in range(least, most + 1) for order in itertools.permutations(range(many))]


def by_hand(many, word):
    """The order of a word, found by exchanges in a list."""
    row = list(range(many))
    for k in word:
        row[k], row[k + 1] = row[k + 1], row[k]
    return tuple(row)


def pairs_wrong(order):
    """How many pairs stand in the wrong order."""
    return sum(a > b for a, b in itertools.combinations(order, 2))


def all_short_words(order):
    """All short words of an order, found from its end: the last entry is a place where it falls."""
    if pairs_wrong(order) == 0:
        return [[]]
    found = []
    for k in range(len(order) - 1):
        if order[k] > order[k + 1]:
            shorter = order[:k] + (order[k + 1], order[k]) + order[k + 2:]
            found += [word + [k] for word in all_short_words(shorter)]
    return sorted(found)


def all_lists(thing):
    """All lists within an answer, the answer itself too."""
    if not isinstance(thing, (list, tuple)):
        return []
    found = [thing] if isinstance(thing, list) else []
    for entry in thing:
        found += all_lists(entry)
    return found


def spoil(thing):
    """Change all lists within an answer."""
    for entry in all_lists(thing):
        entry.reverse()
        entry.append("spoilt")


def check_own(case, function, *asked):
    """What is handed in stays, and what is told is the asker's own."""
    before = copy.deepcopy(asked)
    told = function(*asked)
    case.assertEqual(before, asked)
    kept = copy.deepcopy(told)
    lists = all_lists(told)
    case.assertEqual(len(lists), len({id(entry) for entry in lists}))
    handed = {id(entry) for entry in all_lists(asked)}
    case.assertFalse(handed & {id(entry) for entry in lists})
    spoil(told)
    case.assertEqual(before, asked)
    again = function(*asked)
    case.assertEqual(kept, again)
    spoil(asked)
    case.assertEqual(kept, again)


def check_refused(case, refusal, function, *asked):
    """Just this refusal is told, and nothing that was handed in is changed."""
    before = copy.deepcopy(asked)
    with case.assertRaises(refusal) as caught:
        function(*asked)
    case.assertIs(type(caught.exception), refusal)
    case.assertEqual(repr(before), repr(asked))
    return caught.exception
