"""The desk: lines about named orders, each answered with a line."""

from crossbends.below import above_at, kept_in
from crossbends.drawings import drawings
from crossbends.errors import BadCount, BadName, NoLine, NoName, NoText
from crossbends.orders import back, code, falls, joined, wrong_pairs
from crossbends.products import product_sums
from crossbends.sums import order_sum
from crossbends.texts import order_text, read_order, read_word, sum_text, word_text
from crossbends.words import least_word, word_order

FIRST_COUNT = 3
COUNTS = {"1": 1, "2": 2, "3": 3, "4": 4, "5": 5}
MOST_LETTERS = 8


def check_name(name):
    """Refuse to give a name that isn't made of 1 to 8 small letters."""
    if not 1 <= len(name) <= MOST_LETTERS or not all("a" <= sign <= "z" for sign in name):
        raise BadName("a name is a word of 1 to 8 small letters")


def numbers_text(numbers):
    """Numbers with one blank between, or none."""
    return " ".join(str(number) for number in numbers) if len(numbers) > 0 else "none"


def length_answer(order):
    """How many wrong pairs the order has."""
    return str(len(wrong_pairs(order)))


def code_answer(order):
    """The numbers of the order's code."""
    return numbers_text(code(order))


def falls_answer(order):
    """The places at which the order falls."""
    return numbers_text(falls(order))


def word_answer(order):
    """The order's least word."""
    return word_text(len(order), least_word(order))


def sum_answer(order):
    """The order's polynomial."""
    return sum_text(order_sum(order))


def drawings_answer(order):
    """How many drawings the order has."""
    return str(len(drawings(order)))


def below_answer(one, other):
    """The places of the other order's least word that make the one, or where the one has too many ahead."""
    above = above_at(one, other)
    if above is not None:
        place, height = above
        return f"above {place} {height}"
    places = kept_in(len(other), least_word(other), one)
    return "below " + (",".join(str(place) for place in places) if places != [] else "-")


def times_answer(one, other):
    """The product of both orders' polynomials as a sum of such polynomials."""
    return "; ".join(f"{number} {order_text(order)}" for order, number in product_sums(one, other))


OF_ONE_ORDER = {
    "length": length_answer,
    "code": code_answer,
    "falls": falls_answer,
    "word": word_answer,
    "sum": sum_answer,
    "drawings": drawings_answer,
}
OF_TWO_ORDERS = {"below": below_answer, "times": times_answer}


class Desk:
    """Keeps a count of things and names that stand for orders of so many."""

    def __init__(self):
        self.many = FIRST_COUNT
        self.orders = {}

    def tell(self, line):
        """The answer to a line."""
        words = line.split(" ")
        if "" in words:
            raise NoLine("a line has words with one blank between and none at the ends")
        match words:
            case ["things", figure]:
                return self.begin(figure)
            case ["order", name, "=", text]:
                check_name(name)
                return self.give(name, self.order_read(text))
            case ["order", name, "=", "by", text]:
                check_name(name)
                return self.give(name, word_order(self.many, read_word(self.many, text)))
            case ["join", name, "=", one, other]:
                check_name(name)
                return self.give(name, joined(self.order_named(one), self.order_named(other)))
            case ["back", name, "=", one]:
                check_name(name)
                return self.give(name, back(self.order_named(one)))
            case [ask, one] if ask in OF_ONE_ORDER:
                answer = OF_ONE_ORDER[ask]
                return answer(self.order_named(one))
            case [ask, one, other] if ask in OF_TWO_ORDERS:
                answer = OF_TWO_ORDERS[ask]
                return answer(self.order_named(one), self.order_named(other))
            case _:
                raise NoLine("a line of no known form")

    def begin(self, figure):
        """Begin anew with so many things and no names."""
        if figure not in COUNTS:
            raise BadCount("things are 1, 2, 3, 4 or 5")
        self.many = COUNTS[figure]
        self.orders = {}
        return f"things {figure}"

    def give(self, name, order):
        """Let the name stand for the order from now on."""
        self.orders[name] = order
        return f"order {name} = {order_text(order)}"

    def order_read(self, text):
        """The order of so many things whose text this is."""
        order = read_order(text)
        if len(order) != self.many:
            raise NoText("this is the text of an order of other many things")
        return order

    def order_named(self, name):
        """The order for which the name stands."""
        if name not in self.orders:
            raise NoName("this name stands for nothing")
        return self.orders[name]
