import itertools
import time
import unittest

from crossbends.differences import differed, differed_by, raised, raised_by
from crossbends.errors import BadCount, BadPlace, BadWord, TooGreat
from crossbends.polys import exchanged, less, times
from tests.helper import (BIG, FORTY, FORTY_BELOW, NO_COUNTS, all_orders, all_short_words, along_by_hand, by_hand,
                          check_own, check_refused, differed_by_hand, full, naive, naive_product, nested, no_words,
                          pairs_wrong, raised_by_hand, small_words, some_polynomials, unknown)

TURNED = (4, 3, 2, 1, 0)
OF_ONE_PLACE = (differed, raised)
OF_A_WORD = (differed_by, raised_by)


def four_hundred(many, weight):
    """A polynomial of up to 400 terms, of weights up to this one, with numbers of forty figures."""
    powers = [row for row in itertools.product(range(weight + 1), repeat=many) if sum(row) <= weight]
    step = max(1, len(powers) // 400)
    return naive([(row, (FORTY - place) * (-1) ** place) for place, row in enumerate(powers[::-step][:400])])


def polynomials(many):
    """Polynomials of so many unknowns of weights up to 19."""
    ends = [((0,) * place + (19,) + (0,) * (many - 1 - place), FORTY_BELOW) for place in range(many)]
    return some_polynomials(many) + [naive(ends), four_hundred(many, 19 if many < 4 else 9)]


class Differed(unittest.TestCase):

    def test_told(self):
        self.assertEqual([], differed(2, [], 0))
        self.assertEqual([], differed(2, [((0, 0), 5)], 0))
        self.assertEqual([((0, 0), 1)], differed(2, [((1, 0), 1)], 0))
        self.assertEqual([((0, 0), -1)], differed(2, [((0, 1), 1)], 0))
        self.assertEqual([((2, 0), 2), ((1, 1), 2), ((0, 2), 2)], differed(2, [((3, 0), 2)], 0))
        self.assertEqual([((4, 1, 1), 1), ((3, 2, 1), 2), ((2, 3, 1), 2), ((1, 4, 1), 1)],
                         differed(3, [((2, 4, 1), -1), ((1, 5, 1), -1)], 0))
        self.assertEqual([((2, 1, 1), -FORTY)], differed(3, [((2, 1, 2), FORTY)], 1))

    def test_single_terms(self):
        for powers in itertools.product(range(5), repeat=3):
            for k in (0, 1):
                for number in (1, -1, FORTY, FORTY_BELOW):
                    some = [(powers, number)]
                    self.assertEqual(differed_by_hand(some, k), differed(3, some, k))

    def test_single_terms_of_weight_twenty(self):
        for power in range(21):
            for many in range(2, 6):
                for k in range(many - 1):
                    powers = (0,) * k + (power, 20 - power) + (0,) * (many - 2 - k)
                    self.assertEqual(differed_by_hand([(powers, 3)], k), differed(many, [(powers, 3)], k))

    def test_times_the_two_unknowns_difference(self):
        for many in range(2, 6):
            some_more = [four_hundred(many, 20 if many < 4 else 8)]
            for some in polynomials(many) + some_more:
                for k in range(many - 1):
                    factor = [(unknown(many, k), 1), (unknown(many, k + 1), -1)]
                    told = differed(many, some, k)
                    self.assertEqual(naive(told), told)
                    self.assertEqual(less(some, exchanged(some, k)), naive_product(told, factor))

    def test_nothing_where_it_stays_exchanged(self):
        for many in range(2, 6):
            for some in polynomials(many):
                for k in range(many - 1):
                    both = naive(some + exchanged(some, k))
                    self.assertEqual([], differed(many, both, k))
                    self.assertEqual([], differed(many, differed(many, some, k), k))


class Raised(unittest.TestCase):

    def test_told(self):
        self.assertEqual([], raised(2, [], 0))
        self.assertEqual([((0, 0), 5)], raised(2, [((0, 0), 5)], 0))
        self.assertEqual([((1, 0), 1), ((0, 1), 1)], raised(2, [((1, 0), 1)], 0))
        self.assertEqual([], raised(2, [((0, 1), 1)], 0))
        self.assertEqual([((1, 1), -1)], raised(2, [((0, 2), 1)], 0))

    def test_single_terms(self):
        for powers in itertools.product(range(4), repeat=3):
            for k in (0, 1):
                for number in (1, -1, FORTY, FORTY_BELOW):
                    some = [(powers, number)]
                    self.assertEqual(raised_by_hand(some, k), raised(3, some, k))

    def test_differed_of_the_unknown_times_it(self):
        for many in range(2, 6):
            for some in polynomials(many):
                for k in range(many - 1):
                    told = raised(many, some, k)
                    lifted = times(some, [(unknown(many, k), 1)])
                    self.assertEqual(differed(many, lifted, k), told)
                    self.assertEqual(raised_by_hand(some, k), told)
                    self.assertEqual(told, raised(many, told, k))

    def test_what_stays_exchanged_stays(self):
        for many in range(2, 6):
            for some in polynomials(many):
                for k in range(many - 1):
                    both = naive(some + exchanged(some, k))
                    self.assertEqual(both, raised(many, both, k))

    def test_too_great_just_above_twenty(self):
        for many in range(2, 6):
            for place in range(many):
                great = (0,) * place + (20,) + (0,) * (many - 1 - place)
                good = (0,) * place + (19,) + (0,) * (many - 1 - place)
                for k in range(many - 1):
                    check_refused(self, TooGreat, raised, many, [(great, 1)], k)
                    check_refused(self, TooGreat, raised, many, naive([(great, 1), ((0,) * many, 1)]), k)
                    self.assertEqual(raised_by_hand([(good, 1)], k), raised(many, [(good, 1)], k))
        check_refused(self, TooGreat, raised, 5, [((4, 4, 4, 4, 4), 1)], 2)
        self.assertEqual([((4, 4, 4, 4, 3), 1)], raised(5, [((4, 4, 4, 4, 3), 1)], 2))


class RefusedPlaces(unittest.TestCase):

    def test_bad_place(self):
        for many in range(1, 6):
            wrong = [-1, -2, many - 1, many, 5, FORTY, FORTY_BELOW, True, False, None, "", "0", [], [0], (), (0,)]
            for k in wrong + [nested(10, 0)]:
                for function in OF_ONE_PLACE:
                    with self.subTest(function=function, many=many, k=k):
                        check_refused(self, BadPlace, function, many, [], k)
                        check_refused(self, BadPlace, function, many, [((1,) * many, 1)], k)

    def test_no_place_of_one_unknown(self):
        for function in OF_ONE_PLACE:
            for k in (-1, 0, 1, 2):
                check_refused(self, BadPlace, function, 1, [((3,), 1)], k)

    def test_bad_count_ahead_of_bad_place(self):
        for many in NO_COUNTS + [nested(10, 2)]:
            for k in (0, 1, -1, 9, None, True, "0", [0]):
                for function in OF_ONE_PLACE:
                    with self.subTest(function=function, many=many, k=k):
                        check_refused(self, BadCount, function, many, [], k)
                        check_refused(self, BadCount, function, many, [((20, 0, 0), 1)], k)

    def test_bad_place_ahead_of_too_great(self):
        for k in (-1, 2, FORTY, True, None, "0", [0], (0,)):
            check_refused(self, BadPlace, raised, 3, [((20, 0, 0), 1)], k)


class AlongWords(unittest.TestCase):

    def test_the_last_entry_first(self):
        some = [((2, 1, 0), 1)]
        self.assertEqual([((1, 0, 0), 1), ((0, 1, 0), 1)], differed_by(3, some, [0, 1]))
        self.assertEqual(differed(3, differed(3, some, 1), 0), differed_by(3, some, [0, 1]))
        self.assertEqual(differed(3, differed(3, some, 0), 1), differed_by(3, some, [1, 0]))
        self.assertNotEqual(differed_by(3, some, [0, 1]), differed_by(3, some, [1, 0]))
        self.assertEqual(raised(3, raised(3, some, 1), 0), raised_by(3, some, [0, 1]))
        self.assertEqual(raised(3, raised(3, some, 0), 1), raised_by(3, some, [1, 0]))
        self.assertNotEqual(raised_by(3, some, [0, 1]), raised_by(3, some, [1, 0]))

    def test_small_words(self):
        for many in range(1, 6):
            some = full(many, 3, BIG)
            for word in small_words(many, 5 if many < 4 else 3):
                self.assertEqual(along_by_hand(differed_by_hand, some, word), differed_by(many, some, word))
                self.assertEqual(along_by_hand(raised_by_hand, some, word), raised_by(many, some, word))

    def test_the_empty_word(self):
        for many in range(1, 6):
            for some in polynomials(many) + [[((20,) + (0,) * (many - 1), 1)]]:
                for function in OF_A_WORD:
                    told = function(many, some, [])
                    self.assertEqual(some, told)
                    self.assertIsNot(some, told)

    def test_all_short_words_come_to_one(self):
        for order in all_orders():
            many = len(order)
            some = naive([((4, 3, 2, 1, 0)[5 - many:], BIG), ((1, 5, 0, 2, 3)[:many], -2), ((0,) * many, 7)])
            words = all_short_words(order)
            differences = differed_by(many, some, words[0])
            raises = raised_by(many, some, words[0])
            self.assertEqual(along_by_hand(differed_by_hand, some, words[0]), differences)
            self.assertEqual(along_by_hand(raised_by_hand, some, words[0]), raises)
            for word in words[::len(words) // 16 + 1] + words[-1:]:
                self.assertEqual(differences, differed_by(many, some, word))
                self.assertEqual(raises, raised_by(many, some, word))

    def test_words_that_are_not_short(self):
        for many in range(2, 6):
            some = full(many, 6 if many < 5 else 3)
            for word in small_words(many, 4):
                if len(word) > pairs_wrong(by_hand(many, word)):
                    self.assertEqual([], differed_by(many, some, word))
        some = full(5, 3)
        for word in ([0, 1] * 15, [3] * 30, [0, 1, 2, 3, 2, 1] * 5, [3, 2, 1, 0, 0] * 6):
            self.assertEqual([], differed_by(5, some, word))
            self.assertEqual(along_by_hand(raised_by_hand, some, word), raised_by(5, some, word))

    def test_nought(self):
        for function in OF_A_WORD:
            for word in ([], [0], [0, 1, 2, 3], [0] * 30):
                self.assertEqual([], function(5, [], word))

    def test_bad_count_ahead_of_bad_word(self):
        for many in NO_COUNTS + [nested(10, 2)]:
            for word in ([], [0], [9], None, "0", (0,), [0] * 31):
                for function in OF_A_WORD:
                    check_refused(self, BadCount, function, many, [((20, 0, 0), 1)], word)
                    check_refused(self, BadCount, function, many, [], word)

    def test_bad_word_ahead_of_too_great(self):
        for many in range(1, 6):
            for word in no_words(many):
                for function in OF_A_WORD:
                    with self.subTest(function=function, many=many, word=word):
                        check_refused(self, BadWord, function, many, [], word)
                        check_refused(self, BadWord, function, many, [((20,) + (0,) * (many - 1), 1)], word)

    def test_too_great(self):
        for many in range(2, 6):
            great = [((0,) * (many - 1) + (20,), 1)]
            for word in ([0], [0, 0], [many - 2], [0] * 30):
                check_refused(self, TooGreat, raised_by, many, great, word)
                check_refused(self, TooGreat, raised_by, many, great + [((0,) * many, 1)], word)
                self.assertEqual(along_by_hand(differed_by_hand, great, word), differed_by(many, great, word))
            good = [((0,) * (many - 1) + (19,), 1)]
            self.assertEqual(raised_by_hand(good, many - 2), raised_by(many, good, [many - 2]))


class Soon(unittest.TestCase):

    def test_four_hundred_terms_and_thirty_entries(self):
        some = four_hundred(5, 9)
        self.assertEqual(400, len(some))
        begun = time.monotonic()
        for word in ([0, 1, 2, 3] * 7 + [0, 1], [3, 2, 1, 0] * 7 + [3, 2], [0] * 30):
            self.assertEqual([], differed_by(5, some, word))
            told = raised_by(5, some, word)
            self.assertEqual(told, raised(5, told, word[0]))
        self.assertLess(time.monotonic() - begun, 10)

    def test_told_polynomials_of_thousands_of_terms(self):
        half = full(5, 10, FORTY)
        great = times(half, half)
        good = times(full(5, 9, FORTY), half)
        self.assertGreater(len(great), 50000)
        begun = time.monotonic()
        told = differed(5, great, 1)
        self.assertEqual([], differed(5, told, 1))
        self.assertEqual([], differed_by(5, great, [0, 1, 2, 3] * 7 + [0, 1]))
        self.assertNotEqual([], differed_by(5, great, all_short_words(TURNED)[0]))
        told = raised_by(5, good, [0, 1, 2, 3] * 7 + [0, 1])
        for k in range(4):
            self.assertEqual(told, exchanged(told, k))
        self.assertLess(time.monotonic() - begun, 20)


class Own(unittest.TestCase):

    def test_asker_s_own(self):
        for some in ([], [((2, 0, 1), 5), ((1, 3, 0), -1)], [((1, 1, 0), FORTY)]):
            for function in OF_ONE_PLACE:
                check_own(self, function, 3, list(some), 0)
                check_own(self, function, 3, list(some), 1)
            for function in OF_A_WORD:
                for word in ([], [0], [1, 0], [0, 1, 0, 1]):
                    check_own(self, function, 3, list(some), word)


if __name__ == "__main__":
    unittest.main()
