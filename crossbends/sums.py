"""The polynomial of each order, and polynomials as sums of these."""

from crossbends.basics import check_count
from crossbends.differences import differed_by
from crossbends.errors import OutOfStair
from crossbends.orders import back, check_order, joined, order_of
from crossbends.polys import less
from crossbends.words import least_word


def stair_of(many):
    """The stair's powers; the same tuple is the order turned about."""
    return tuple(reversed(range(many)))


def brought_down(stair, order):
    """The polynomial that differences make of the stair's one for the order."""
    many = len(order)
    return differed_by(many, stair, least_word(joined(back(order), stair_of(many))))


def order_sum(order):
    """The polynomial of an order."""
    check_order(order)
    return brought_down([(stair_of(len(order)), 1)], order)


def out_of_stair(many, some):
    """None of a polynomial beneath the stair, else the greatest powers of a term that is not."""
    check_count(many)
    stair = stair_of(many)
    for powers, number in some:
        if any(power > most for power, most in zip(powers, stair)):
            return powers
    return None


def check_beneath(many, some):
    """Refuse a polynomial that is not beneath the stair."""
    out = out_of_stair(many, some)
    if out is not None:
        raise OutOfStair(out)


def by_orders(many, some):
    """The rising list of tuples (order, number) whose order_sums, so often, add up to the polynomial."""
    check_beneath(many, some)
    # The least powers of what is left are the code of one order alone among those that are due, and it
    # is due as often as their number says. They rise from step to step, and with its code so does the order.
    found = []
    left = some
    while left != []:
        least, number = left[-1]
        order = order_of(least)
        found.append((order, number))
        left = less(left, [(powers, number * often) for powers, often in order_sum(order)])
    return found
