"""Products of the orders' polynomials, the keys of powers, and orders with one fall."""

from crossbends.basics import check_count, is_within, swapped
from crossbends.below import traded
from crossbends.differences import raised_by
from crossbends.errors import BadPlace, BadPowers, TooMany
from crossbends.orders import check_order, check_orders, falls, widened, wrong_pairs
from crossbends.polys import is_powers, times
from crossbends.sums import by_orders, order_sum

MOST_IN_PRODUCTS = 3
MOST_IN_EXCHANGES = 4
MOST_KEY_WEIGHT = 10


def product_sums(one, other):
    """The rising list of tuples (order, number) whose order_sums, so often, add up to the product of both."""
    check_orders(one, other)
    if len(one) > MOST_IN_PRODUCTS:
        raise TooMany("products are told of orders of at most three things")
    # In the product no unknown has more than twice its power in the stair, which in so much wider a
    # stair it may have.
    many = 2 * len(one) - 1
    return by_orders(many, times(order_sum(widened(one, many)), order_sum(widened(other, many))))


def by_exchange(order, k):
    """The rising list of the wider orders with just one wrong pair more, by an exchange across k."""
    check_order(order)
    many = len(order)
    if many > MOST_IN_EXCHANGES:
        raise TooMany("exchanges are told of orders of at most four things")
    if not is_within(k, 0, many - 1):
        raise BadPlace("k is a whole number from 0 to the count of things less 1")
    wide = widened(order, many + 1)
    others = [traded(wide, a, b) for a in range(k + 1) for b in range(k + 1, many + 1)]
    wrong = len(wrong_pairs(order))
    return sorted([other for other in others if len(wrong_pairs(other)) == wrong + 1])


def key_sum(many, powers):
    """The polynomial that raising makes of the term of the sorted powers."""
    check_count(many)
    if not is_powers(many, powers, MOST_KEY_WEIGHT):
        raise BadPowers("powers are a tuple of numbers of 0 or more, together at most 10")
    # The exchange that is found first is the last one by which the term is raised.
    word = []
    left = powers
    while rises(left) != []:
        k = rises(left)[0]
        word.append(k)
        left = swapped(left, k)
    return raised_by(many, [(left, 1)], word)


def rises(powers):
    """The places with a lesser power than at the next one."""
    return [k for k in range(len(powers) - 1) if powers[k] < powers[k + 1]]


def one_fall(order):
    """None of an order with more falls than one, else its fall and how far the things up to it are from home."""
    places = falls(order)
    if len(places) > 1:
        return None
    k = places[0] if places != [] else 0
    further = [order[place] - place for place in reversed(range(k + 1))]
    return (k, tuple([steps for steps in further if steps != 0]))
