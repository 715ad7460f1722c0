"""Differences of polynomials by neighbouring unknowns, plain and raised."""

from crossbends.basics import check_count, is_within, swapped
from crossbends.errors import BadPlace, TooGreat
from crossbends.polys import MOST_WEIGHT, greatest_weight
from crossbends.words import check_word


def check_neighbours(many, k):
    """Refuse what is no unknown with another one behind it."""
    if not is_within(k, 0, many - 2):
        raise BadPlace("k is a whole number from 0 to the count of unknowns less 2")


def check_room(some):
    """Refuse a polynomial that has no room for one more power."""
    if greatest_weight(some) + 1 > MOST_WEIGHT:
        raise TooGreat("with one more power the weight comes to more than 20")


def differed(many, some, k):
    """The polynomial less itself with the unknowns k and k + 1 exchanged, parted by x(k) less x(k + 1)."""
    check_count(many)
    check_neighbours(many, k)
    return difference(some, k)


def raised(many, some, k):
    """The polynomial times x(k), differed."""
    check_count(many)
    check_neighbours(many, k)
    check_room(some)
    return difference(lifted(some, k), k)


def differed_by(many, some, word):
    """The polynomial differed by the word's entries, the last one first."""
    check_count(many)
    check_word(many, word)
    told = list(some)
    for k in reversed(word):
        told = difference(told, k)
    return told


def raised_by(many, some, word):
    """The polynomial raised by the word's entries, the last one first."""
    check_count(many)
    check_word(many, word)
    if word != []:
        check_room(some)
    told = list(some)
    for k in reversed(without_idle(many, word)):
        told = difference(lifted(told, k), k)
    return told


def without_idle(many, word):
    """The word without those entries that do nothing where a polynomial is raised along it."""
    # The entries kept so far are a short word of the order. Where this falls at k, another short word of
    # it ends in k, raises alike, and raised by k twice is raised by k once. So ten entries are enough.
    kept = []
    order = tuple(range(many))
    for k in word:
        if order[k] < order[k + 1]:
            kept.append(k)
            order = swapped(order, k)
    return kept


def lifted(some, k):
    """The polynomial times x(k)."""
    return [(powers[:k] + (powers[k] + 1,) + powers[k + 1:], number) for powers, number in some]


# Terms that differ only in how the powers of x(k) and x(k + 1) share their sum make a row: their numbers
# by the power of x(k), from 0 to the sum. A row is parted by itself, in as many steps as it has numbers.

def difference(some, k):
    """What differed tells, of what is known to be good."""
    terms = []
    for key, row in rows_by_sum(some, k).items():
        for power, number in row_difference(row):
            powers = key[:k] + (power, key[k] - 1 - power) + key[k + 1:]
            terms.append((powers, number))
    return sorted(terms, reverse=True)


def rows_by_sum(some, k):
    """The rows of a polynomial, by its powers with the sum in place of the two powers."""
    rows = {}
    for powers, number in some:
        both = powers[k] + powers[k + 1]
        key = powers[:k] + (both,) + powers[k + 2:]
        if key not in rows:
            rows[key] = [0] * (both + 1)
        rows[key][powers[k]] = number
    return rows


def row_difference(row):
    """The tuples (power of x(k), number), numbers other than 0, of a row differed."""
    # Times x(k) less x(k + 1), the number at a power less 1, less the one at the power, must be the
    # row's number at the power, less the one at the same place from the row's end.
    found = []
    number = 0
    for power in range(len(row) - 1, 0, -1):
        number += row[power] - row[-1 - power]
        if number != 0:
            found.append((power - 1, number))
    return found
