"""Words: rows of exchanges of neighbours, and the moves between short ones."""

from crossbends.basics import check_count, is_within, swapped, way_back, ways_from
from crossbends.errors import BadWord, OtherOrder, Spare, TooMany
from crossbends.orders import back, check_order, falls, wrong_pairs

MOST_ENTRIES = 30
MOST_SHORT_WORDS = 300


def is_word(many, thing):
    """Whether this is a word of so many things."""
    if not isinstance(thing, list) or len(thing) > MOST_ENTRIES:
        return False
    return all(is_within(k, 0, many - 2) for k in thing)


def check_word(many, word):
    """Refuse what is no word of so many things."""
    if not is_word(many, word):
        raise BadWord("a word is a list of at most 30 numbers from 0 to the count of things less 2")


def word_order(many, word):
    """The order that the word's exchanges make of the plain one."""
    check_count(many)
    check_word(many, word)
    order = tuple(range(many))
    for k in word:
        order = swapped(order, k)
    return order


def spare(many, word):
    """None of a short word, else two places without whose entries it makes the same order."""
    check_count(many)
    check_word(many, word)
    order = tuple(range(many))
    place_of_pair = {}
    for place, k in enumerate(word):
        pair = (order[k], order[k + 1])
        # Two things that are exchanged back might as well never have been exchanged: from the one
        # exchange to the other each of them only goes where the other one would have gone.
        if pair[0] > pair[1]:
            return (place_of_pair[swapped(pair, 0)], place)
        place_of_pair[pair] = place
        order = swapped(order, k)
    return None


def least_word(order):
    """The least of the order's short words."""
    check_order(order)
    # A short word may begin with k just where thing k + 1 stands ahead of thing k, that is, where
    # the order's back falls at k. The entries behind it make the order whose back has k exchanged.
    left = back(order)
    word = []
    while falls(left) != []:
        k = falls(left)[0]
        word.append(k)
        left = swapped(left, k)
    return word


def short_words(order):
    """The rising list of all short words of the order."""
    check_order(order)
    # Begun words of one length, in rising order, stay so when each is made longer by rising entries.
    begun = [([], back(order))]
    for pair in wrong_pairs(order):
        begun = [(word + [k], swapped(left, k)) for word, left in begun for k in falls(left)]
    if len(begun) > MOST_SHORT_WORDS:
        raise TooMany("the order has more than 300 short words")
    return [word for word, left in begun]


def moves(many, word):
    """The rising list of the words that come of this one by one move."""
    check_count(many)
    check_word(many, word)
    return sorted(moved(word))


def moved(word):
    """The words that come by one move; each changes other places, so no word comes twice."""
    found = []
    for i in range(len(word) - 1):
        a, b = word[i], word[i + 1]
        if abs(a - b) >= 2:
            found.append(word[:i] + [b, a] + word[i + 2:])
        if abs(a - b) == 1 and word[i + 2:i + 3] == [a]:
            found.append(word[:i] + [b, a, b] + word[i + 3:])
    return found


def led(many, one, other):
    """Words from the one to the other, both short and of one order, each next one by one move."""
    check_count(many)
    check_word(many, one)
    check_word(many, other)
    for place, word in enumerate([one, other]):
        if spare(many, word) is not None:
            raise Spare(place)
    if word_order(many, one) != word_order(many, other):
        raise OtherOrder("the words make unlike orders")
    # Moves lead through all short words of an order, and no order of five things has more than 768.
    return way_back(ways_from(other, moved), one)
