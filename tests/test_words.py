import itertools
import unittest

from crossbends.errors import BadCount, BadOrder, BadWord, OtherOrder, Spare, TooMany
from crossbends.words import least_word, led, moves, short_words, spare, word_order
from tests.helper import (NO_COUNTS, NO_ORDERS, all_orders, all_short_words, by_hand, check_own, check_refused, nested,
                          no_words, pairs_wrong, small_words)

TURNED = (4, 3, 2, 1, 0)
OF_A_WORD = (word_order, spare, moves)


def long_words():
    """Words of up to 30 entries, of up to five things."""
    for many in range(2, 6):
        for seed in range(12):
            number = 7919 * seed + many
            word = []
            for step in range(30):
                number = (number * 1103515245 + 12345) % 2 ** 31
                word.append((number >> 16) % (many - 1))
            for count in (10, 11, 15, 29, 30):
                yield many, word[:count]


def moved_by_hand(word):
    """All words that come by one move, by trying all that differ at neighbouring places."""
    found = []
    for i in range(len(word)):
        two = word[i:i + 2]
        three = word[i:i + 3]
        if len(two) == 2 and abs(two[0] - two[1]) > 1:
            found.append(word[:i] + two[::-1] + word[i + 2:])
        if len(three) == 3 and three[0] == three[2] and three[1] in (three[0] - 1, three[0] + 1):
            found.append(word[:i] + [three[1], three[0], three[1]] + word[i + 3:])
    return sorted(found)


class BadWords(unittest.TestCase):

    def test_bad_count_ahead_of_bad_word(self):
        for many in NO_COUNTS + [nested(10, 2)]:
            for word in ([], [0], [9], None, "0", (0,), [0] * 31):
                for function in OF_A_WORD:
                    check_refused(self, BadCount, function, many, word)
                check_refused(self, BadCount, led, many, word, [])
                check_refused(self, BadCount, led, many, [], word)

    def test_bad_word(self):
        for many in range(1, 6):
            for word in no_words(many):
                for function in OF_A_WORD:
                    with self.subTest(function=function, many=many, word=word):
                        check_refused(self, BadWord, function, many, word)

    def test_bad_word_of_either_ahead_of_spare_and_other_order(self):
        for word in no_words(3):
            for other in ([], [0], [0, 0], [0, 1, 0]):
                check_refused(self, BadWord, led, 3, word, other)
                check_refused(self, BadWord, led, 3, other, word)
            check_refused(self, BadWord, led, 3, word, word)

    def test_only_the_empty_word_of_one_thing(self):
        self.assertEqual((0,), word_order(1, []))
        self.assertIsNone(spare(1, []))
        self.assertEqual([], moves(1, []))
        self.assertEqual([[]], led(1, [], []))
        for function in OF_A_WORD:
            check_refused(self, BadWord, function, 1, [0])


class WordOrder(unittest.TestCase):

    def test_told(self):
        self.assertEqual((1, 2, 0), word_order(3, [0, 1]))
        self.assertEqual((2, 0, 1), word_order(3, [1, 0]))
        self.assertEqual((1, 2, 3, 4, 0), word_order(5, [0, 1, 2, 3]))
        self.assertEqual((0, 1, 2), word_order(3, [1, 1]))

    def test_small_words(self):
        for many in range(1, 6):
            self.assertEqual(tuple(range(many)), word_order(many, []))
            for word in small_words(many, 5):
                self.assertEqual(by_hand(many, word), word_order(many, word))

    def test_long_words(self):
        for many, word in long_words():
            self.assertEqual(by_hand(many, word), word_order(many, word))

    def test_thirty_entries(self):
        self.assertEqual((0, 1), word_order(2, [0] * 30))
        self.assertEqual((1, 0), word_order(2, [0] * 29))

    def test_word_stays(self):
        check_own(self, word_order, 4, [0, 2, 1, 1])


class SpareEntries(unittest.TestCase):

    def check_spare(self, many, word):
        told = spare(many, word)
        order = by_hand(many, word)
        if len(word) == pairs_wrong(order):
            self.assertIsNone(told)
            return
        self.assertIsInstance(told, tuple)
        i, j = told
        self.assertEqual({int}, {type(i), type(j)})
        self.assertTrue(0 <= i < j < len(word))
        self.assertEqual(order, by_hand(many, word[:i] + word[i + 1:j] + word[j + 1:]))

    def test_small_words(self):
        for many in range(1, 6):
            for word in small_words(many, 6):
                self.check_spare(many, word)

    def test_long_words(self):
        for many, word in long_words():
            self.check_spare(many, word)

    def test_none_just_of_short_words(self):
        for order in all_orders():
            words = all_short_words(order)
            for word in words[:40] + words[-40:]:
                self.assertIsNone(spare(len(order), word))
                for k in range(len(order) - 1):
                    self.check_spare(len(order), word + [k])
                    self.check_spare(len(order), [k] + word)

    def test_thirty_entries(self):
        for word in ([0] * 30, [0, 1] * 15, [0, 1, 2, 3, 2, 1] * 5):
            self.check_spare(5, word)

    def test_word_stays(self):
        check_own(self, spare, 4, [0, 2, 1, 1])
        check_own(self, spare, 4, [0, 2, 1])


class ShortWords(unittest.TestCase):

    def test_told(self):
        self.assertEqual([[0, 1, 0], [1, 0, 1]], short_words((2, 1, 0)))
        self.assertEqual([[0, 1]], short_words((1, 2, 0)))
        self.assertEqual([[0, 2], [2, 0]], short_words((1, 0, 3, 2)))
        self.assertEqual(16, len(short_words((3, 2, 1, 0))))
        for many in range(1, 6):
            self.assertEqual([[]], short_words(tuple(range(many))))
            self.assertEqual([], least_word(tuple(range(many))))

    def test_over_all_orders(self):
        refused = 0
        for order in all_orders():
            expected = all_short_words(order)
            self.assertEqual(expected[0], least_word(order))
            if len(expected) > 300:
                refused += 1
                check_refused(self, TooMany, short_words, order)
            else:
                self.assertEqual(expected, short_words(order))
        self.assertGreater(refused, 0)
        check_refused(self, TooMany, short_words, TURNED)

    def test_least_word_is_short(self):
        for order in all_orders():
            word = least_word(order)
            self.assertEqual(order, word_order(len(order), word))
            self.assertIsNone(spare(len(order), word))

    def test_bad_order(self):
        for thing in NO_ORDERS:
            with self.subTest(thing=thing):
                check_refused(self, BadOrder, least_word, thing)
                check_refused(self, BadOrder, short_words, thing)

    def test_asker_s_own(self):
        for order in ((0,), (0, 1, 2), (2, 0, 1), (3, 2, 1, 0), (2, 4, 1, 0, 3)):
            check_own(self, least_word, order)
            check_own(self, short_words, order)


class Moves(unittest.TestCase):

    def test_told(self):
        self.assertEqual([[1, 0, 1]], moves(3, [0, 1, 0]))
        self.assertEqual([[0, 1, 0]], moves(3, [1, 0, 1]))
        self.assertEqual([[2, 0]], moves(4, [0, 2]))
        self.assertEqual([[0, 0, 2], [2, 0, 0]], moves(4, [0, 2, 0]))
        self.assertEqual([[0, 1, 3, 0], [1, 0, 1, 3]], moves(5, [0, 1, 0, 3]))
        self.assertEqual([], moves(3, [0, 1]))
        self.assertEqual([], moves(3, [0, 0]))
        self.assertEqual([], moves(3, []))

    def test_small_words(self):
        for many in range(1, 6):
            for word in small_words(many, 5):
                self.assertEqual(moved_by_hand(word), moves(many, word))

    def test_long_words(self):
        for many, word in list(long_words()) + [(5, [0, 1, 2, 3, 2, 1] * 5), (5, [0, 3] * 15)]:
            told = moves(many, word)
            self.assertEqual(moved_by_hand(word), told)
            self.assertEqual(len(told), len({tuple(entry) for entry in told}))
            for entry in told:
                self.assertEqual(by_hand(many, word), by_hand(many, entry))

    def test_asker_s_own(self):
        for word in ([], [0, 1, 0], [0, 2, 1, 2, 0, 2]):
            check_own(self, moves, 4, word)


class Led(unittest.TestCase):

    def check_led(self, many, one, other):
        told = led(many, one, other)
        self.assertEqual(one, told[0])
        self.assertEqual(other, told[-1])
        self.assertEqual(len(told), len({tuple(word) for word in told}))
        for word, following in zip(told, told[1:]):
            self.assertIn(following, moved_by_hand(word))

    def test_all_pairs_of_up_to_four_things(self):
        for order in all_orders(1, 4):
            for one, other in itertools.product(all_short_words(order), repeat=2):
                self.check_led(len(order), one, other)

    def test_pairs_of_five_things(self):
        for order in all_orders(5, 5):
            words = all_short_words(order)
            for one, other in ((words[0], words[-1]), (words[-1], words[0]), (words[len(words) // 2], words[-1])):
                self.check_led(5, one, other)

    def test_longest_words(self):
        words = all_short_words(TURNED)
        self.assertEqual(768, len(words))
        for place in range(0, 768, 16):
            self.check_led(5, words[place], words[-1 - place])
            self.check_led(5, words[0], words[place])

    def test_a_word_with_itself(self):
        for many, word in ((1, []), (3, []), (3, [0, 1, 0]), (5, [0, 1, 0, 2, 1, 0, 3, 2, 1, 0])):
            self.assertEqual([word], led(many, word, word))

    def test_spare_with_its_place(self):
        long, short = [0, 0], [0]
        self.assertEqual(0, check_refused(self, Spare, led, 3, long, short).place)
        self.assertEqual(0, check_refused(self, Spare, led, 3, long, long).place)
        self.assertEqual(1, check_refused(self, Spare, led, 3, short, long).place)
        self.assertEqual(1, check_refused(self, Spare, led, 3, [], long).place)
        self.assertEqual(0, check_refused(self, Spare, led, 3, [0, 1, 0, 1], [1, 0]).place)
        self.assertEqual(1, check_refused(self, Spare, led, 5, [], [3] * 30).place)

    def test_other_order(self):
        check_refused(self, OtherOrder, led, 3, [0], [1])
        check_refused(self, OtherOrder, led, 3, [0, 1], [1, 0])
        check_refused(self, OtherOrder, led, 3, [], [1, 0])
        check_refused(self, OtherOrder, led, 3, [0, 1, 0], [])
        words = [all_short_words(order)[0] for order in all_orders(4, 4)]
        for one, other in itertools.permutations(words, 2):
            check_refused(self, OtherOrder, led, 4, one, other)

    def test_asker_s_own(self):
        check_own(self, led, 3, [0, 1, 0], [1, 0, 1])
        check_own(self, led, 3, [0, 1, 0], [0, 1, 0])
        check_own(self, led, 3, [], [])
        check_own(self, led, 4, [0, 1, 0, 2, 1, 0], [2, 1, 2, 0, 1, 2])

    def test_one_list_handed_in_twice(self):
        word = [0, 1, 0]
        told = led(3, word, word)
        told[0].append(0)
        self.assertEqual([0, 1, 0], word)


if __name__ == "__main__":
    unittest.main()
