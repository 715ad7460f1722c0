"""Polynomials of orders with a row of shifts."""

from crossbends.basics import check_count, is_whole
from crossbends.differences import differed_by
from crossbends.errors import BadShifts
from crossbends.orders import check_order, check_orders
from crossbends.polys import at, summed, times
from crossbends.sums import brought_down, check_beneath
from crossbends.words import least_word


def is_shifts(many, thing):
    """Whether these are shifts of so many things."""
    return isinstance(thing, list) and len(thing) == many and all(is_whole(shift) for shift in thing)


def check_shifts(many, shifts):
    """Refuse what are no shifts of so many things."""
    if not is_shifts(many, shifts):
        raise BadShifts("shifts are a list of as many whole numbers as there are things")


def shifted_sum(order, shifts):
    """The polynomial of an order with these shifts."""
    check_order(order)
    check_shifts(len(order), shifts)
    return brought_down(shifted_stair(shifts), order)


def shifted_stair(shifts):
    """The product, over all cells that may be crosses, of the row's unknown less the column's shift."""
    many = len(shifts)
    product = [((0,) * many, 1)]
    for i in range(many - 1):
        for j in range(many - 1 - i):
            product = times(product, unknown_less(many, i, shifts[j]))
    return product


def unknown_less(many, i, shift):
    """The polynomial x(i) less a shift."""
    powers = (0,) * i + (1,) + (0,) * (many - 1 - i)
    return summed([(powers, 1), ((0,) * many, -shift)])


def shifted_worth(order, shifts, other):
    """The number of shifted_sum where each unknown is the shift that the other order has at its place."""
    check_orders(order, other)
    return at(shifted_sum(order, shifts), [shifts[thing] for thing in other])


def by_shifts(many, some, shifts):
    """The rising list of tuples (order, number) whose shifted_sums, so often, add up to the polynomial."""
    check_count(many)
    check_shifts(many, shifts)
    check_beneath(many, some)
    found = []
    for order in all_orders(many):
        number = at(differed_by(many, some, least_word(order)), shifts)
        if number != 0:
            found.append((order, number))
    return found


def all_orders(many):
    """The rising list of all orders of so many things."""
    begun = [()]
    for place in range(many):
        begun = [row + (thing,) for row in begun for thing in range(many) if thing not in row]
    return begun
