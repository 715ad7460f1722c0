import itertools
import unittest

from crossbends.below import above_at, ahead, climb, kept_in, steps_up
from crossbends.errors import BadCount, BadOrder, BadPlace, BadWord, OtherCount, Spare
from tests.helper import (FORTY, FORTY_BELOW, NO_COUNTS, NO_ORDERS, all_orders, all_short_words, by_hand, check_own,
                          check_refused, nested, no_words, pairs_wrong)

PLAIN = (0, 1, 2, 3, 4)
TURNED = (4, 3, 2, 1, 0)
NO_PLACES = [-1, -2, FORTY, FORTY_BELOW, True, False, None, "", "0", "1", [], [0], (), (0,), nested(10, 0)]


def ahead_by_hand(order, place, height):
    return sum(1 for at, thing in enumerate(order) if at < place and thing >= height)


def above_by_hand(one, other):
    """The first place and height where one has more ahead, or None."""
    numbers = range(len(one) + 1)
    for place, height in itertools.product(numbers, repeat=2):
        if ahead_by_hand(one, place, height) > ahead_by_hand(other, place, height):
            return (place, height)
    return None


def steps_by_hand(order):
    found = []
    for i, j in itertools.combinations(range(len(order)), 2):
        row = list(order)
        row[i], row[j] = row[j], row[i]
        if pairs_wrong(row) == pairs_wrong(order) + 1:
            found.append(tuple(row))
    return sorted(found)


def all_above(order):
    """All orders that steps up lead to, the order itself too."""
    reached = {order}
    left = [order]
    while left:
        for step in steps_by_hand(left.pop()):
            if step not in reached:
                reached.add(step)
                left.append(step)
    return reached


def pairs_of_orders():
    """All pairs of orders of as many things up to four, and many of five."""
    for many in range(1, 5):
        yield from itertools.product(all_orders(many, many), repeat=2)
    yield from itertools.islice(itertools.product(all_orders(5, 5), repeat=2), 0, None, 7)


class Ahead(unittest.TestCase):

    def test_told(self):
        self.assertEqual(2, ahead((2, 0, 3, 1), 3, 2))
        self.assertEqual(3, ahead((2, 0, 3, 1), 3, 0))
        self.assertEqual(1, ahead((2, 0, 3, 1), 2, 1))
        self.assertEqual(0, ahead((2, 0, 3, 1), 0, 0))
        self.assertEqual(0, ahead((2, 0, 3, 1), 4, 4))

    def test_over_all_orders(self):
        for order in all_orders():
            numbers = range(len(order) + 1)
            for place, height in itertools.product(numbers, repeat=2):
                self.assertEqual(ahead_by_hand(order, place, height), ahead(order, place, height))

    def test_bad_place(self):
        for order in ((0,), (1, 0), (0, 2, 1), (3, 0, 1, 2), TURNED):
            many = len(order)
            for wrong in NO_PLACES + [many + 1, many + 2]:
                with self.subTest(order=order, wrong=wrong):
                    for right in (0, 1, many):
                        check_refused(self, BadPlace, ahead, order, wrong, right)
                        check_refused(self, BadPlace, ahead, order, right, wrong)
                    check_refused(self, BadPlace, ahead, order, wrong, wrong)

    def test_bad_order_ahead_of_bad_place(self):
        for thing in NO_ORDERS:
            with self.subTest(thing=thing):
                check_refused(self, BadOrder, ahead, thing, 0, 0)
                check_refused(self, BadOrder, ahead, thing, None, 0)
                check_refused(self, BadOrder, ahead, thing, 0, -1)

    def test_what_is_handed_in_stays(self):
        check_own(self, ahead, (2, 0, 1), 1, 2)


class AboveAt(unittest.TestCase):

    def test_told(self):
        self.assertIsNone(above_at((0, 2, 1), (2, 0, 1)))
        self.assertEqual((1, 1), above_at((1, 0, 2), (0, 2, 1)))
        self.assertEqual((2, 2), above_at((0, 2, 1), (1, 0, 2)))
        self.assertEqual((1, 2), above_at((2, 0, 1), (1, 2, 0)))

    def test_over_pairs(self):
        for one, other in pairs_of_orders():
            self.assertEqual(above_by_hand(one, other), above_at(one, other))

    def test_none_just_where_steps_lead_up(self):
        for one in all_orders():
            above = all_above(one)
            others = all_orders(len(one), len(one))
            for other in others if len(one) < 5 else others[::5]:
                self.assertEqual(other in above, above_at(one, other) is None)

    def test_least_and_greatest(self):
        for order in all_orders():
            plain = tuple(sorted(order))
            self.assertIsNone(above_at(order, order))
            self.assertIsNone(above_at(plain, order))
            self.assertIsNone(above_at(order, plain[::-1]))

    def test_bad_order_of_either_ahead_of_other_count(self):
        for thing in NO_ORDERS:
            with self.subTest(thing=thing):
                for order in ((0,), (1, 0), TURNED):
                    check_refused(self, BadOrder, above_at, thing, order)
                    check_refused(self, BadOrder, above_at, order, thing)
                check_refused(self, BadOrder, above_at, thing, thing)

    def test_other_count(self):
        for one, other in itertools.permutations(range(1, 6), 2):
            check_refused(self, OtherCount, above_at, tuple(range(one)), tuple(range(other)))


class KeptIn(unittest.TestCase):

    def check_kept(self, many, word, order, is_below):
        told = kept_in(many, word, order)
        if not is_below:
            self.assertIsNone(told)
            return
        self.assertIsInstance(told, list)
        self.assertEqual(sorted(set(told)), told)
        self.assertTrue(all(type(place) is int and 0 <= place < len(word) for place in told))
        self.assertEqual(pairs_wrong(order), len(told))
        self.assertEqual(order, by_hand(many, [word[place] for place in told]))

    def test_told(self):
        self.assertEqual([1], kept_in(3, [0, 1], (0, 2, 1)))
        self.assertEqual([0, 1], kept_in(3, [0, 1], (1, 2, 0)))
        self.assertIsNone(kept_in(3, [0, 1], (2, 0, 1)))
        self.assertIsNone(kept_in(3, [], (1, 0, 2)))
        self.assertIn(kept_in(3, [0, 1, 0], (1, 0, 2)), ([0], [2]))

    def test_all_short_words_of_up_to_four_things(self):
        for order in all_orders(1, 4):
            many = len(order)
            above = all_above(order)
            for other in all_orders(many, many):
                for word in all_short_words(other):
                    self.check_kept(many, word, order, other in above)

    def test_short_words_of_five_things(self):
        words = {order: all_short_words(order) for order in all_orders(5, 5)}
        for number, order in enumerate(words):
            above = all_above(order)
            for other in list(words)[number % 3::3] + [TURNED]:
                for word in (words[other][0], words[other][-1]):
                    self.check_kept(5, word, order, other in above)

    def test_words_of_ten_entries(self):
        for word in all_short_words(TURNED)[::60]:
            self.assertEqual(10, len(word))
            for order in all_orders(5, 5):
                self.check_kept(5, word, order, True)

    def test_the_empty_word_and_the_plain_order(self):
        for many in range(1, 6):
            plain = tuple(range(many))
            for order in all_orders(many, many):
                self.assertEqual([], kept_in(many, all_short_words(order)[0], plain))
                self.check_kept(many, [], order, order == plain)

    def test_bad_order_ahead_of_bad_count(self):
        for thing in NO_ORDERS:
            with self.subTest(thing=thing):
                for many, word in ((3, [0]), (6, []), (None, None), (3, [9]), (3, [0, 0]), (2, "0")):
                    check_refused(self, BadOrder, kept_in, many, word, thing)

    def test_bad_count_ahead_of_bad_word(self):
        for many in NO_COUNTS + [nested(10, 2)]:
            for word in ([], [9], None, [0, 0], (0,), [0] * 31):
                check_refused(self, BadCount, kept_in, many, word, (1, 0, 2))

    def test_bad_word_ahead_of_spare_and_other_count(self):
        for many in range(1, 6):
            for word in no_words(many):
                with self.subTest(many=many, word=word):
                    check_refused(self, BadWord, kept_in, many, word, tuple(range(many)))
                    check_refused(self, BadWord, kept_in, many, word, tuple(range(many % 5 + 1)))
        check_refused(self, BadWord, kept_in, 3, [0, 0, 2], (0, 1, 2))

    def test_spare_ahead_of_other_count(self):
        for word in ([0, 0], [0, 1, 0, 1], [1] * 30, [0, 1, 1, 0]):
            for order in ((0, 1, 2), (2, 1, 0), (0,), (1, 0), (3, 2, 1, 0), TURNED):
                self.assertEqual(0, check_refused(self, Spare, kept_in, 3, word, order).place)

    def test_other_count(self):
        for many, count in itertools.permutations(range(1, 6), 2):
            check_refused(self, OtherCount, kept_in, many, [], tuple(range(count)))
            check_refused(self, OtherCount, kept_in, many, list(range(many - 1)), tuple(range(count)))

    def test_asker_s_own(self):
        check_own(self, kept_in, 4, [0, 1, 2, 0, 1, 0], (2, 0, 3, 1))
        check_own(self, kept_in, 4, [0, 1], (1, 2, 0, 3))
        check_own(self, kept_in, 4, [0, 1], (3, 2, 1, 0))
        check_own(self, kept_in, 4, [], (0, 1, 2, 3))


class StepsUp(unittest.TestCase):

    def test_told(self):
        self.assertEqual([(0, 2, 1), (1, 0, 2)], steps_up((0, 1, 2)))
        self.assertEqual([(1, 2, 0), (2, 0, 1)], steps_up((1, 0, 2)))
        self.assertEqual([(2, 1, 0)], steps_up((2, 0, 1)))
        self.assertEqual([], steps_up((2, 1, 0)))
        self.assertEqual([], steps_up((0,)))

    def test_over_all_orders(self):
        for order in all_orders():
            told = steps_up(order)
            self.assertEqual(steps_by_hand(order), told)
            self.assertEqual(len(set(told)), len(told))

    def test_bad_order(self):
        for thing in NO_ORDERS:
            with self.subTest(thing=thing):
                check_refused(self, BadOrder, steps_up, thing)

    def test_asker_s_own(self):
        for order in ((0,), (1, 0, 2), (2, 0, 3, 1), TURNED):
            check_own(self, steps_up, order)


class Climb(unittest.TestCase):

    def test_over_pairs(self):
        above = {order: all_above(order) for order in all_orders()}
        for one, other in pairs_of_orders():
            told = climb(one, other)
            if other not in above[one]:
                self.assertIsNone(told)
                continue
            self.assertEqual((one, other), (told[0], told[-1]))
            self.assertEqual(pairs_wrong(other) - pairs_wrong(one) + 1, len(told))
            for order, following in zip(told, told[1:]):
                self.assertIn(following, steps_by_hand(order))

    def test_one_order_with_itself(self):
        for order in all_orders():
            self.assertEqual([order], climb(order, order))

    def test_from_the_plain_one_to_the_one_turned_about(self):
        self.assertEqual(11, len(climb(PLAIN, TURNED)))
        self.assertIsNone(climb(TURNED, PLAIN))

    def test_bad_order_of_either_ahead_of_other_count(self):
        for thing in NO_ORDERS:
            with self.subTest(thing=thing):
                for order in ((0,), (1, 0), TURNED):
                    check_refused(self, BadOrder, climb, thing, order)
                    check_refused(self, BadOrder, climb, order, thing)
                check_refused(self, BadOrder, climb, thing, thing)

    def test_other_count(self):
        for one, other in itertools.permutations(range(1, 6), 2):
            check_refused(self, OtherCount, climb, tuple(range(one)), tuple(reversed(range(other))))

    def test_asker_s_own(self):
        check_own(self, climb, (0, 1, 2, 3), (3, 1, 2, 0))
        check_own(self, climb, (0, 1, 2), (0, 1, 2))
        check_own(self, climb, (1, 0, 2), (0, 1, 2))


if __name__ == "__main__":
    unittest.main()
