import itertools
import sys
import time
import unittest

from crossbends.errors import BadCount, BadDrawing, BadOrder, BadWord, NoText
from crossbends.polys import at, less, times
from crossbends.sums import order_sum
from crossbends.texts import drawing_text, order_text, read_drawing, read_order, read_word, sum_text, word_text
from tests.helper import (FORTY, FORTY_BELOW, NO_COUNTS, NO_ORDERS, all_drawings, all_orders, check_own, check_refused,
                          full, nested, no_words, small_words, stair_cells)

SIGNS = [chr(number) for number in range(32, 127)]
ODD_TEXTS = ["", " ", "  ", "--", "- -", " -", "- ", "-0", "0-", "- 00", "00 -", "+", "+0", "-1", "a", "x0", "none",
             "0,1", "0.1", "(0, 1)", "[0]", "[]", "()", "O", "0" * 31, "0" * 300, " " * 300, "-" * 300, "~" * 300,
             "01 " * 100]


def all_texts(signs, most):
    """All texts of these signs, of at most so many."""
    for count in range(most + 1):
        for text in itertools.product(signs, repeat=count):
            yield "".join(text)


def figures(number):
    """A number's figures, however many there are."""
    before = sys.get_int_max_str_digits()
    sys.set_int_max_str_digits(0)
    try:
        return str(number)
    finally:
        sys.set_int_max_str_digits(before)


class OrderTexts(unittest.TestCase):

    def test_told(self):
        self.assertEqual("0", order_text((0,)))
        self.assertEqual("10", order_text((1, 0)))
        self.assertEqual("20134", order_text((2, 0, 1, 3, 4)))
        self.assertEqual((2, 0, 1, 3, 4), read_order("20134"))

    def test_read_again(self):
        for order in all_orders():
            text = "".join(map(str, order))
            self.assertEqual(text, order_text(order))
            self.assertEqual(order, read_order(text))
            self.assertIs(tuple, type(read_order(text)))

    def test_bad_order(self):
        for thing in NO_ORDERS:
            with self.subTest(thing=thing):
                check_refused(self, BadOrder, order_text, thing)

    def test_only_these_texts(self):
        good = {"".join(map(str, order)) for order in all_orders()}
        for text in itertools.chain(all_texts("01234 -", 4), all_texts("012345", 5), all_texts(SIGNS, 2), ODD_TEXTS):
            if text in good:
                self.assertEqual(text, order_text(read_order(text)))
            else:
                check_refused(self, NoText, read_order, text)

    def test_no_text(self):
        for text in ("012345", "00", "1", "02", "0 1", " 01", "01 ", "01\n", "0,1", "001", "0123401234", "01x", "-"):
            check_refused(self, NoText, read_order, text)


class WordTexts(unittest.TestCase):

    def test_told(self):
        self.assertEqual("010", word_text(3, [0, 1, 0]))
        self.assertEqual([0, 1, 0], read_word(3, "010"))
        self.assertEqual("3210", word_text(5, [3, 2, 1, 0]))

    def test_the_empty_word(self):
        for many in range(1, 6):
            self.assertEqual("-", word_text(many, []))
            self.assertEqual([], read_word(many, "-"))

    def test_read_again(self):
        for many in range(1, 6):
            words = list(small_words(many, 4)) if many > 1 else [[]]
            words += [[(place * place + turn) % (many - 1) for place in range(30)] for turn in range(4) if many > 1]
            for word in words:
                text = "".join(map(str, word)) or "-"
                self.assertEqual(text, word_text(many, word))
                self.assertEqual(word, read_word(many, text))

    def test_thirty_entries_and_one_more(self):
        for many in range(2, 6):
            for figure in range(many - 1):
                text = str(figure) * 30
                self.assertEqual([figure] * 30, read_word(many, text))
                self.assertEqual(text, word_text(many, [figure] * 30))
                check_refused(self, NoText, read_word, many, text + str(figure))

    def test_bad_word(self):
        for many in range(1, 6):
            for word in no_words(many):
                with self.subTest(many=many, word=word):
                    check_refused(self, BadWord, word_text, many, word)

    def test_bad_count_ahead_of_all_else(self):
        for many in NO_COUNTS + [nested(10, 3)]:
            for word in ([], [0], [9], None, "-", ()):
                check_refused(self, BadCount, word_text, many, word)
            for text in ["-", "0", "01"] + ODD_TEXTS:
                check_refused(self, BadCount, read_word, many, text)

    def test_only_these_texts(self):
        for many in range(1, 6):
            good = {"".join(map(str, word)) for word in small_words(many, 4) if word} | {"-"}
            texts = itertools.chain(all_texts("01234 -", 4), all_texts(SIGNS, 2), ODD_TEXTS)
            for text in texts:
                if text in good:
                    self.assertEqual(text, word_text(many, read_word(many, text)))
                else:
                    check_refused(self, NoText, read_word, many, text)

    def test_a_figure_too_great(self):
        for many in range(1, 6):
            for figure in range(many - 1, 10):
                check_refused(self, NoText, read_word, many, str(figure))
                check_refused(self, NoText, read_word, many, "0" + str(figure))
                check_refused(self, NoText, read_word, many, str(figure) + "0" * 29)


class DrawingTexts(unittest.TestCase):

    def test_told(self):
        self.assertEqual("00 02 11", drawing_text(4, [(0, 0), (0, 2), (1, 1)]))
        self.assertEqual([(0, 0), (0, 2), (1, 1)], read_drawing(4, "00 02 11"))
        self.assertEqual("00", drawing_text(2, [(0, 0)]))
        self.assertEqual("00 01 02 03 10 11 12 20 21 30", drawing_text(5, stair_cells(5)))

    def test_the_empty_drawing(self):
        for many in range(1, 6):
            self.assertEqual("-", drawing_text(many, []))
            self.assertEqual([], read_drawing(many, "-"))

    def test_read_again(self):
        for many in range(1, 6):
            for drawing in all_drawings(many):
                text = " ".join(f"{i}{j}" for i, j in drawing) or "-"
                self.assertEqual(text, drawing_text(many, drawing))
                self.assertEqual(drawing, read_drawing(many, text))

    def test_bad_drawing(self):
        for many in range(1, 6):
            for drawing in ([(0, many - 1)], [(many - 1, 0)], [(-1, 0)], [(0, 0), (0, 0)], [(1, 0), (0, 1)], [(0,)],
                            [[0, 0]], [(0, 0, 0)], [(False, 0)], [(0, None)], [()], ((0, 0),), (), "-", "00", None,
                            True, 0, [None], [FORTY], [(FORTY, FORTY_BELOW)], nested(10, 0)):
                with self.subTest(many=many, drawing=drawing):
                    check_refused(self, BadDrawing, drawing_text, many, drawing)

    def test_bad_count_ahead_of_all_else(self):
        for many in NO_COUNTS + [nested(10, 3)]:
            for drawing in ([], [(0, 0)], [(9, 9)], None, "-", ()):
                check_refused(self, BadCount, drawing_text, many, drawing)
            for text in ["-", "00", "00 01"] + ODD_TEXTS:
                check_refused(self, BadCount, read_drawing, many, text)

    def test_only_these_texts(self):
        for many in range(1, 6):
            small = [drawing for drawing in all_drawings(many) if len(drawing) < 3]
            good = {" ".join(f"{i}{j}" for i, j in drawing) or "-" for drawing in small}
            texts = itertools.chain(all_texts("0123 -", 5), all_texts(SIGNS, 2), ODD_TEXTS)
            for text in texts:
                if text in good:
                    self.assertEqual(text, drawing_text(many, read_drawing(many, text)))
                else:
                    check_refused(self, NoText, read_drawing, many, text)

    def test_not_rising_or_out_of_the_stair(self):
        for many in range(2, 6):
            cells = stair_cells(many)
            for one, other in itertools.product(cells, repeat=2):
                if one >= other:
                    check_refused(self, NoText, read_drawing, many, f"{one[0]}{one[1]} {other[0]}{other[1]}")
            for i, j in itertools.product(range(10), repeat=2):
                if (i, j) not in cells:
                    check_refused(self, NoText, read_drawing, many, f"{i}{j}")
                    check_refused(self, NoText, read_drawing, many, f"00 {i}{j}")

    def test_blanks_and_signs(self):
        for text in (" 00 01", "00 01 ", "00  01", "0001", "00,01", "00 1", "00 011", "00 0", "0 0", "00 -", "- 00",
                     "00\t01", "00\n01", "00 01\n", "00 0-", "00 +1", "00 " * 100, "00 01 " * 50):
            check_refused(self, NoText, read_drawing, 5, text)


class SumTexts(unittest.TestCase):

    def test_nought(self):
        self.assertEqual("0", sum_text([]))

    def test_single_terms(self):
        for powers, unknowns in (((1,), "x0"), ((2,), "x0^2"), ((20,), "x0^20"), ((0, 1), "x1"),
                                 ((0, 0, 0, 0, 1), "x4"), ((1, 1), "x0x1"), ((2, 1), "x0^2x1"),
                                 ((0, 2, 0, 10, 0), "x1^2x3^10"),
                                 ((4, 3, 2, 1, 0), "x0^4x1^3x2^2x3"), ((4, 4, 4, 4, 4), "x0^4x1^4x2^4x3^4x4^4")):
            for number, ahead in ((1, ""), (-1, "-"), (2, "2"), (-2, "-2"), (10, "10"), (11, "11"), (FORTY, "9" * 40),
                                  (FORTY_BELOW, "-" + "9" * 40)):
                self.assertEqual(ahead + unknowns, sum_text([(powers, number)]))

    def test_no_powers(self):
        for many in range(1, 6):
            for number in (1, -1, 2, -2, 10, FORTY, FORTY_BELOW):
                self.assertEqual(str(number), sum_text([((0,) * many, number)]))

    def test_signs_between(self):
        self.assertEqual("2x0^2x1 - x3", sum_text([((2, 1, 0, 0), 2), ((0, 0, 0, 1), -1)]))
        self.assertEqual("-x0 + 1", sum_text([((1,), -1), ((0,), 1)]))
        self.assertEqual("x0 - 1", sum_text([((1,), 1), ((0,), -1)]))
        self.assertEqual("-3x0^2 - 2x0 - 1", sum_text([((2,), -3), ((1,), -2), ((0,), -1)]))
        self.assertEqual("x0^2 + x0 + 1", sum_text([((2,), 1), ((1,), 1), ((0,), 1)]))
        some = [((1, 0, 0), 1), ((0, 1, 0), -1), ((0, 0, 1), 5), ((0, 0, 0), -7)]
        self.assertEqual("x0 - x1 + 5x2 - 7", sum_text(some))

    def test_all_kinds_of_terms_read_again(self):
        for some in (full(1, 20), full(2, 9, -40), full(3, 5, FORTY), full(5, 4, -3), full(5, 3, FORTY_BELOW)):
            self.assertEqual(some, self.read(sum_text(some), len(some[0][0])))
        for order in all_orders():
            self.assertEqual(order_sum(order), self.read(sum_text(order_sum(order)), len(order)))

    def read(self, text, many):
        """The terms of a text, as they stand there."""
        text = " - " + text[1:] if text[0] == "-" else " + " + text
        words = text.split(" ")[1:]
        found = []
        for sign, term in zip(words[::2], words[1::2], strict=True):
            ahead, *unknowns = term.split("x")
            self.assertNotIn(ahead if unknowns else "", ("1", "0"))
            powers = [0] * many
            for part in unknowns:
                figure, mark, power = part.partition("^")
                self.assertNotIn(power if mark else "2", ("", "0", "1"))
                powers[int(figure)] += int(power or 1)
            found.append((tuple(powers), int(sign + (ahead or "1"))))
        return found

    def test_told_numbers_of_very_many_figures(self):
        great = at([((20,), 1)], [at([((20,), 1)], [10 ** 39])])
        self.assertEqual("1" + "0" * 15600 + "x0", sum_text([((1,), great)]))
        self.assertEqual("-1" + "0" * 15600, sum_text([((0,), -great)]))
        one_less = less([((0,), great)], [((0,), 1)])
        self.assertEqual("9" * 15600, sum_text(one_less))
        self.assertEqual("9" * 15600 + "0" * 15600 + "x0", sum_text(times(one_less, [((1,), great)])))

    def test_figures_about_every_length(self):
        numbers = [10 ** length + more for length in (511, 512, 513, 639, 640, 641, 1023, 1024, 1025, 4299, 4300, 4301)
                   for more in (-1, 0, 1, 10 ** 300, 7 * 10 ** 505)]
        numbers += [FORTY ** 20, FORTY ** 200, 7 ** 9000, 2 ** 20000 + 1]
        for number in numbers:
            self.assertEqual(figures(number), sum_text([((0,), number)]))
            self.assertEqual("-" + figures(number) + "x0", sum_text([((1,), -number)]))

    def test_told_soon_for_thousands_of_terms(self):
        half = full(5, 10, FORTY)
        product = times(half, half)
        begun = time.monotonic()
        text = sum_text(product)
        self.assertLess(time.monotonic() - begun, 20)
        self.assertEqual(len(product), len(text.replace(" - ", " + ").split(" + ")))


class Own(unittest.TestCase):

    def test_what_is_handed_in_stays(self):
        check_own(self, order_text, (1, 0))
        check_own(self, word_text, 3, [0, 1, 0])
        check_own(self, drawing_text, 3, [(0, 0), (1, 0)])
        check_own(self, sum_text, [((1, 0), 3), ((0, 1), -1)])

    def test_told_lists_are_the_asker_s_own(self):
        for text in ("-", "0", "010"):
            check_own(self, read_word, 3, text)
        for text in ("-", "00", "00 10"):
            check_own(self, read_drawing, 3, text)
        check_own(self, read_order, "201")


if __name__ == "__main__":
    unittest.main()
