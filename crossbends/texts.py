"""Orders, words, drawings and polynomials as texts, and the texts read again."""

from crossbends.basics import check_count
from crossbends.drawings import check_drawing, is_drawing
from crossbends.errors import NoText
from crossbends.orders import check_order, is_order
from crossbends.words import check_word, is_word

FIGURES = "0123456789"
EMPTY = "-"
PART_FIGURES = 512


def figures_text(numbers):
    """The figures of small numbers without blanks."""
    return "".join(FIGURES[number] for number in numbers)


def read_figures(text):
    """The numbers of a text's figures; -1, which nothing here has, for any other sign."""
    return [FIGURES.find(sign) for sign in text]


def order_text(order):
    """The text of an order."""
    check_order(order)
    return figures_text(order)


def read_order(text):
    """The order whose text this is."""
    order = tuple(read_figures(text))
    if not is_order(order):
        raise NoText("this is no order's text")
    return order


def word_text(many, word):
    """The text of a word."""
    check_count(many)
    check_word(many, word)
    return figures_text(word) if word != [] else EMPTY


def read_word(many, text):
    """The word of so many things whose text this is."""
    check_count(many)
    if text == EMPTY:
        return []
    word = read_figures(text)
    if word == [] or not is_word(many, word):
        raise NoText("this is no word's text")
    return word


def drawing_text(many, drawing):
    """The text of a drawing."""
    check_drawing(many, drawing)
    return " ".join(figures_text(cross) for cross in drawing) if drawing != [] else EMPTY


def read_drawing(many, text):
    """The drawing of so many things whose text this is."""
    check_count(many)
    if text == EMPTY:
        return []
    drawing = [tuple(read_figures(word)) for word in text.split(" ")]
    if not is_drawing(many, drawing):
        raise NoText("this is no drawing's text")
    return drawing


def sum_text(some):
    """The text of a polynomial."""
    if some == []:
        return "0"
    texts = []
    for powers, number in some:
        texts.append(sign_text(number, texts == []))
        texts.append(term_text(powers, abs(number)))
    return "".join(texts)


def sign_text(number, is_first):
    """What stands ahead of a term with this number."""
    if is_first:
        return "-" if number < 0 else ""
    return " - " if number < 0 else " + "


def term_text(powers, number):
    """The text of a term without its sign."""
    unknowns = "".join(power_text(k, power) for k, power in enumerate(powers) if power != 0)
    if number == 1 and unknowns != "":
        return unknowns
    return number_text(number) + unknowns


def power_text(k, power):
    """The text of a power of x(k) other than 0."""
    return f"x{k}^{power}" if power > 1 else f"x{k}"


def number_text(number):
    """The figures of a number of 0 or more."""
    # Python itself writes no number of more than some thousand figures, but one that was told may have
    # more. So it is written part by part.
    full = (10 ** 64) ** 8
    texts = []
    while number >= full:
        number, part = divmod(number, full)
        texts.append(str(part).zfill(PART_FIGURES))
    texts.append(str(number))
    return "".join(reversed(texts))
