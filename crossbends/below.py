"""Which orders lie below which, and the ways up between them."""

from crossbends.basics import check_count, is_within, swapped
from crossbends.errors import BadPlace, OtherCount, Spare
from crossbends.orders import check_order, check_orders, wrong_pairs
from crossbends.words import check_word, spare


def ahead(order, place, height):
    """How many of the things ahead of the place are height or greater."""
    check_order(order)
    many = len(order)
    if not is_within(place, 0, many) or not is_within(height, 0, many):
        raise BadPlace("a place and a height are whole numbers from 0 to the count of things")
    return count_ahead(order, place, height)


def count_ahead(order, place, height):
    """What ahead tells, of what is known to be good."""
    return len([thing for thing in order[:place] if thing >= height])


def above_at(one, other):
    """None where one lies below other, else the least place and height where one has more ahead."""
    check_orders(one, other)
    many = len(one)
    for place in range(many + 1):
        for height in range(many + 1):
            if count_ahead(one, place, height) > count_ahead(other, place, height):
                return (place, height)
    return None


def kept_in(many, word, order):
    """Places of a short word whose entries alone are a short word of the order, or None."""
    check_order(order)
    check_count(many)
    check_word(many, word)
    if spare(many, word) is not None:
        raise Spare(0)
    if len(order) != many:
        raise OtherCount("the order is not of as many things as the word")
    return places_kept(word, order)


def places_kept(word, order):
    """What kept_in tells, of what is known to be good."""
    # Where the order falls at the word's last entry, some short word of it ends so too, and if it lies
    # below the word's order, it does so still with this exchange undone in both. Where it doesn't fall
    # there, it lies below that order without the entry. So no choice made from the end is ever wrong.
    places = []
    left = order
    for place in reversed(range(len(word))):
        k = word[place]
        if left[k] > left[k + 1]:
            places.append(place)
            left = swapped(left, k)
    return places[::-1] if wrong_pairs(left) == [] else None


def steps_up(order):
    """The rising list of the orders with two things exchanged and just one wrong pair more."""
    check_order(order)
    many = len(order)
    others = [traded(order, i, j) for i in range(many) for j in range(i + 1, many)]
    wrong = len(wrong_pairs(order))
    return sorted([other for other in others if len(wrong_pairs(other)) == wrong + 1])


def traded(order, i, j):
    """The order with what stands at the places i and j exchanged."""
    row = list(order)
    row[i], row[j] = row[j], row[i]
    return tuple(row)


def climb(one, other):
    """Orders from the one to the other, each next one a step up, or None where one doesn't lie below."""
    if above_at(one, other) is not None:
        return None
    # Between an order and another one above it there is always a step up, so the climb never gets stuck.
    way = [one]
    while way[-1] != other:
        between = [step for step in steps_up(way[-1]) if above_at(step, other) is None]
        way.append(between[0])
    return way
