"""Orders: tuples that tell which thing stands at each place."""

from crossbends.basics import MOST_THINGS, is_within
from crossbends.errors import BadCode, BadCount, BadOrder, OtherCount


def is_row(thing):
    """Whether this is a tuple of as many entries as an order may have."""
    return isinstance(thing, tuple) and 1 <= len(thing) <= MOST_THINGS


def is_order(thing):
    """Whether this is an order."""
    if not is_row(thing):
        return False
    last = len(thing) - 1
    return all(is_within(entry, 0, last) for entry in thing) and len(set(thing)) == len(thing)


def check_order(order):
    """Refuse what is no order."""
    if not is_order(order):
        raise BadOrder("an order is a tuple of the numbers from 0 on, each once, of 1 to 5 things")


def check_orders(one, other):
    """Refuse what are no two orders of as many things."""
    check_order(one)
    check_order(other)
    if len(one) != len(other):
        raise OtherCount("the orders are not of as many things")


def joined(one, other):
    """The order that has at each place what stands in one at the place that other has there."""
    check_orders(one, other)
    return tuple([one[place] for place in other])


def back(order):
    """The order that undoes this one: the place of each thing."""
    check_order(order)
    return tuple([order.index(thing) for thing in range(len(order))])


def wrong_pairs(order):
    """The pairs of places, the lesser first, with the greater thing at the lesser place."""
    check_order(order)
    many = len(order)
    return [(i, j) for i in range(many) for j in range(i + 1, many) if order[i] > order[j]]


def falls(order):
    """The places with a greater thing than at the next one."""
    check_order(order)
    return [k for k in range(len(order) - 1) if order[k] > order[k + 1]]


def code(order):
    """How many lesser things stand behind each place."""
    check_order(order)
    return tuple([len([behind for behind in order[i:] if behind < order[i]]) for i in range(len(order))])


def is_code(thing):
    """Whether this is the code of an order."""
    if not is_row(thing):
        return False
    last = len(thing) - 1
    return all(is_within(number, 0, last - i) for i, number in enumerate(thing))


def order_of(numbers):
    """The one order with this code."""
    if not is_code(numbers):
        raise BadCode("a code has at each place a number from 0 to how many stand behind it")
    left = list(range(len(numbers)))
    order = []
    for number in numbers:
        order.append(left.pop(number))
    return tuple(order)


def widened(order, many):
    """The order of many things that begins with this one, the others behind in turn."""
    check_order(order)
    if not is_within(many, len(order), MOST_THINGS):
        raise BadCount("an order is widened to as many things as it has, or more, up to 5")
    return order + tuple(range(len(order), many))
