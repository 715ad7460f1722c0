"""Polynomials: lists of tuples (powers, number), greater powers first."""

from crossbends.basics import check_count, is_within, swapped
from crossbends.errors import BadPowers, TooGreat

MOST_WEIGHT = 20
POWER_BITS = 5


def is_powers(many, thing, most):
    """Whether this is a tuple of powers of so many unknowns, together at most most."""
    if not isinstance(thing, tuple) or len(thing) != many:
        return False
    return all(is_within(power, 0, most) for power in thing) and sum(thing) <= most


def made(many, terms):
    """The sum of these terms, in any order, as a polynomial."""
    check_count(many)
    for powers, number in terms:
        if not is_powers(many, powers, MOST_WEIGHT):
            raise BadPowers("powers are a tuple of numbers of 0 or more, together at most 20")
    return summed(terms)


def summed(terms):
    """The polynomial of terms whose powers are known to be good."""
    sums = {}
    for powers, number in terms:
        sums[powers] = sums.get(powers, 0) + number
    return [(powers, sums[powers]) for powers in sorted(sums, reverse=True) if sums[powers] != 0]


def plus(one, other):
    """The sum of two polynomials."""
    return summed(one + other)


def less(one, other):
    """The first polynomial less the other one."""
    return summed(one + [(powers, -number) for powers, number in other])


def greatest_weight(some):
    """The greatest sum of the powers of a term; 0 where there is no term."""
    return max([sum(powers) for powers, number in some], default=0)


def times(one, other):
    """The product of two polynomials."""
    if greatest_weight(one) + greatest_weight(other) > MOST_WEIGHT:
        raise TooGreat("the greatest weights come to more than 20")
    if one == [] or other == []:
        return []
    room = room_for_products(one, other)
    terms = []
    for key, row in multiplied(packed_rows(one, room), packed_rows(other, room)).items():
        ahead = unpacked_powers(key, len(one[0][0]) - 1)
        terms += [(ahead + (power,), number) for power, number in row_numbers(row, room)]
    return sorted(terms, reverse=True)


# Polynomials of thousands of terms may be multiplied. So that this is soon done, all terms that differ
# only in the last unknown's power are packed into one whole number, their row, and the powers of the
# other unknowns into another one, its key: rows are multiplied, keys added, by one step of Python's each.

def room_for_products(one, other):
    """How many bits each number of a product's row needs, its sign and a borrowed 1 counted."""
    pairs = min(len(one), len(other))
    return (greatest_number(one) * greatest_number(other) * pairs).bit_length() + 2


def greatest_number(some):
    """The greatest number of a term, signs left out."""
    return max([abs(number) for powers, number in some])


def packed_rows(some, room):
    """The rows of a polynomial by their keys."""
    rows = {}
    for powers, number in some:
        key = packed_powers(powers[:-1])
        rows[key] = rows.get(key, 0) + (number << room * powers[-1])
    return rows


def multiplied(one_rows, other_rows):
    """The rows of the product by their keys."""
    rows = {}
    for key, row in one_rows.items():
        for other_key, other_row in other_rows.items():
            both = key + other_key
            rows[both] = rows.get(both, 0) + row * other_row
    return rows


def packed_powers(powers):
    """The powers as one whole number; none of a product is above 20, so they never run into another."""
    key = 0
    for power in powers:
        key = (key << POWER_BITS) + power
    return key


def unpacked_powers(key, many):
    """The so many powers that were packed into a key."""
    full = 1 << POWER_BITS
    return tuple([(key >> POWER_BITS * place) % full for place in reversed(range(many))])


def row_numbers(row, room):
    """The tuples (power, number) of a row, numbers other than 0."""
    full = 1 << room
    found = []
    power = 0
    while row != 0:
        number = row % full
        if number >= full // 2:
            number -= full
        if number != 0:
            found.append((power, number))
        row = (row - number) >> room
        power += 1
    return found


def exchanged(some, k):
    """The polynomial with the unknowns k and k + 1 exchanged."""
    return sorted([(swapped(powers, k), number) for powers, number in some], reverse=True)


def at(some, point):
    """The polynomial's number where the unknowns are the numbers of the point."""
    rest = {powers: number for powers, number in some}
    for worth in reversed(point):
        rest = without_last(rest, worth)
    return rest.get((), 0)


def without_last(rest, worth):
    """The numbers by powers with the last unknown replaced by what it is worth."""
    table = worth_powers(worth, max([powers[-1] for powers in rest], default=0))
    sums = {}
    for powers, number in rest.items():
        ahead = powers[:-1]
        sums[ahead] = sums.get(ahead, 0) + number * table[powers[-1]]
    return sums


def worth_powers(worth, most):
    """The powers of a number, from the one of 0 to the one of most."""
    # No power is made that isn't needed: a number that was told may have very many figures.
    table = [1]
    while len(table) <= most:
        table.append(table[-1] * worth)
    return table
