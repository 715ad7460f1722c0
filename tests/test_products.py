import functools
import itertools
import unittest

from crossbends.differences import raised
from crossbends.errors import BadCount, BadOrder, BadPlace, BadPowers, OtherCount, TooMany
from crossbends.polys import exchanged
from crossbends.products import by_exchange, key_sum, one_fall, product_sums
from crossbends.sums import order_sum
from tests.helper import (FORTY, FORTY_BELOW, NO_COUNTS, NO_ORDERS, added_up, all_orders, check_own, check_refused,
                          naive, naive_product, nested, pairs_wrong, raised_by_hand, swapped_by_hand, unknown)

NO_PLACES = [-1, -2, FORTY, FORTY_BELOW, True, False, None, "", "0", "1", [], [0], (), (0,), (0, 1), nested(10, 0)]


def noughts_behind(some, count):
    return [(powers + (0,) * count, number) for powers, number in some]


def all_powers(many, most):
    """All powers of so many unknowns, together at most so much."""
    return [row for row in itertools.product(range(most + 1), repeat=many) if sum(row) <= most]


@functools.lru_cache(maxsize=None)
def key_by_hand(powers):
    """The key's terms, by the point's own words."""
    for k in range(len(powers) - 1):
        if powers[k] < powers[k + 1]:
            return tuple(raised_by_hand(list(key_by_hand(swapped_by_hand(powers, k))), k))
    return ((powers, 1),)


def alternated(powers):
    """The sum of the term's exchanges of unknowns, each with the sign of its order."""
    terms = []
    for order in itertools.permutations(range(len(powers))):
        terms.append((tuple(powers[place] for place in order), (-1) ** pairs_wrong(order)))
    return naive(terms)


class ProductSums(unittest.TestCase):

    def test_told(self):
        self.assertEqual([((0,), 1)], product_sums((0,), (0,)))
        self.assertEqual([((2, 0, 1), 1)], product_sums((1, 0), (1, 0)))
        self.assertEqual([((0, 3, 1, 2, 4), 1), ((1, 2, 0, 3, 4), 1)], product_sums((0, 2, 1), (0, 2, 1)))
        self.assertEqual([((1, 2, 0, 3, 4), 1), ((2, 0, 1, 3, 4), 1)], product_sums((1, 0, 2), (0, 2, 1)))
        self.assertEqual([((4, 2, 0, 1, 3), 1)], product_sums((2, 1, 0), (2, 1, 0)))

    def test_over_all_pairs(self):
        for many in (1, 2, 3):
            wide = 2 * many - 1
            for one, other in itertools.product(all_orders(many, many), repeat=2):
                told = product_sums(one, other)
                orders = [order for order, number in told]
                self.assertEqual(sorted(set(orders)), orders)
                for order, number in told:
                    self.assertEqual(list(range(wide)), sorted(order))
                    self.assertIs(int, type(number))
                    self.assertGreater(number, 0)
                both = [noughts_behind(order_sum(order), many - 1) for order in (one, other)]
                self.assertEqual(naive_product(*both), added_up(told, order_sum))
                self.assertEqual(told, product_sums(other, one))

    def test_with_the_plain_order(self):
        for order in all_orders(1, 3):
            many = len(order)
            wide = order + tuple(range(many, 2 * many - 1))
            self.assertEqual([(wide, 1)], product_sums(order, tuple(range(many))))
            self.assertEqual([(wide, 1)], product_sums(tuple(range(many)), order))

    def test_bad_order_in_either_place_ahead_of_all_else(self):
        for thing in NO_ORDERS:
            for order in ((0,), (1, 0), (0, 2, 1), (0, 1, 2, 3), (4, 3, 2, 1, 0)):
                with self.subTest(thing=thing, order=order):
                    check_refused(self, BadOrder, product_sums, thing, order)
                    check_refused(self, BadOrder, product_sums, order, thing)
            check_refused(self, BadOrder, product_sums, thing, thing)

    def test_other_count_ahead_of_too_many(self):
        for one, other in itertools.permutations(range(1, 6), 2):
            check_refused(self, OtherCount, product_sums, tuple(range(one)), tuple(range(other))[::-1])
            check_refused(self, OtherCount, product_sums, tuple(range(one))[::-1], tuple(range(other)))

    def test_too_many(self):
        for one, other in itertools.product(all_orders(4, 4), repeat=2):
            check_refused(self, TooMany, product_sums, one, other)
        for order in all_orders(5, 5):
            check_refused(self, TooMany, product_sums, order, (0, 1, 2, 3, 4))
            check_refused(self, TooMany, product_sums, (0, 1, 3, 2, 4), order)

    def test_asker_s_own(self):
        check_own(self, product_sums, (0, 2, 1), (0, 2, 1))
        check_own(self, product_sums, (0,), (0,))


class ByExchange(unittest.TestCase):

    def test_told(self):
        self.assertEqual([(1, 0)], by_exchange((0,), 0))
        self.assertEqual([(1, 0, 2)], by_exchange((0, 1), 0))
        self.assertEqual([(0, 2, 1)], by_exchange((0, 1), 1))
        self.assertEqual([(0, 3, 1, 2), (1, 2, 0, 3)], by_exchange((0, 2, 1), 1))
        self.assertEqual([(4, 2, 1, 0, 3)], by_exchange((3, 2, 1, 0), 0))

    def test_over_all_orders(self):
        for order in all_orders(1, 4):
            many = len(order)
            wide = order + (many,)
            for k in range(many):
                expected = []
                for a in range(k + 1):
                    for b in range(k + 1, many + 1):
                        row = list(wide)
                        row[a], row[b] = row[b], row[a]
                        if pairs_wrong(row) == pairs_wrong(wide) + 1:
                            expected.append(tuple(row))
                told = by_exchange(order, k)
                self.assertEqual(sorted(set(expected)), told)
                factor = [(unknown(many + 1, place), 1) for place in range(k + 1)]
                product = naive_product(order_sum(wide), factor)
                self.assertEqual(product, added_up([(other, 1) for other in told], order_sum))

    def test_bad_order_ahead_of_all_else(self):
        for thing in NO_ORDERS:
            for k in (0, 5, None):
                with self.subTest(thing=thing, k=k):
                    check_refused(self, BadOrder, by_exchange, thing, k)

    def test_too_many_whatever_k_is(self):
        for order in all_orders(5, 5):
            for k in [0, 1, 2, 3, 4, 5] + NO_PLACES:
                check_refused(self, TooMany, by_exchange, order, k)

    def test_bad_place(self):
        for order in all_orders(1, 4):
            for k in [len(order), len(order) + 1] + NO_PLACES:
                check_refused(self, BadPlace, by_exchange, order, k)

    def test_asker_s_own(self):
        check_own(self, by_exchange, (0, 2, 1), 1)
        check_own(self, by_exchange, (0,), 0)


class KeySum(unittest.TestCase):

    def test_told(self):
        self.assertEqual([((7,), 1)], key_sum(1, (7,)))
        self.assertEqual([((2, 1), 1)], key_sum(2, (2, 1)))
        self.assertEqual([((2, 1), 1), ((1, 2), 1)], key_sum(2, (1, 2)))
        self.assertEqual([((2, 0, 0), 1), ((1, 1, 0), 1), ((0, 2, 0), 1)], key_sum(3, (0, 2, 0)))
        self.assertEqual([((2, 1, 0), 1), ((2, 0, 1), 1), ((1, 2, 0), 1), ((1, 1, 1), 1), ((1, 0, 2), 1)],
                         key_sum(3, (1, 0, 2)))

    def test_powers_that_never_rise(self):
        for many in range(1, 6):
            for powers in all_powers(many, 10):
                if list(powers) == sorted(powers, reverse=True):
                    self.assertEqual([(powers, 1)], key_sum(many, powers))

    def test_powers_that_never_fall(self):
        for many in range(1, 6):
            stair = tuple(range(many - 1, -1, -1))
            for powers in all_powers(many, 10):
                if list(powers) == sorted(powers) and (many < 5 or sum(powers) in (0, 3, 10)):
                    told = key_sum(many, powers)
                    for k in range(many - 1):
                        self.assertEqual(told, exchanged(told, k))
                    high = tuple(a + b for a, b in zip(powers[::-1], stair))
                    self.assertEqual(alternated(high), naive_product(told, alternated(stair)))

    def test_all_powers_by_hand(self):
        for many, most in ((1, 10), (2, 10), (3, 10), (4, 6), (5, 4)):
            for powers in all_powers(many, most):
                self.check_by_hand(many, powers)

    def test_weights_of_ten(self):
        for many in (4, 5):
            for powers in [row for row in all_powers(many, 10) if sum(row) == 10][::29]:
                self.check_by_hand(many, powers)

    def check_by_hand(self, many, powers):
        told = key_sum(many, powers)
        self.assertEqual(list(key_by_hand(powers)), told)
        for k in range(many - 1):
            other = powers if powers[k] <= powers[k + 1] else swapped_by_hand(powers, k)
            self.assertEqual(key_sum(many, other), raised(many, told, k))

    def test_ten_together_are_let_by_and_eleven_are_not(self):
        for many in range(1, 6):
            for place, other in itertools.product(range(many), repeat=2):
                powers = [0] * many
                powers[place] += 4
                powers[other] += 6
                self.assertIn((tuple(powers), 1), key_sum(many, tuple(powers)))
                powers[-1] += 1
                check_refused(self, BadPowers, key_sum, many, tuple(powers))

    def test_bad_powers(self):
        for many in range(1, 6):
            good = (1,) * many
            wrong = [good[1:], good + (0,), good + (1,), list(good), (), [], None, 0, 1, 7, FORTY, True, False, "", "1",
                     "11", (good,), [good], nested(10, 1), tuple(range(400))]
            entries = [-1, 11, 12, 21, FORTY, FORTY_BELOW, True, False, None, "", "1", [], [1], (), (1,), nested(9, 1)]
            for place in range(many):
                wrong += [good[:place] + (entry,) + good[place + 1:] for entry in entries]
                if many > 1:
                    wrong.append((0,) * place + (11,) + (-1,) + (0,) * (many - place - 2))
            for powers in wrong:
                with self.subTest(many=many, powers=powers):
                    check_refused(self, BadPowers, key_sum, many, powers)

    def test_bad_count_ahead_of_bad_powers(self):
        for many in NO_COUNTS + [nested(10, 3)]:
            for powers in ((), (1,), (1, 0, 0), (0,) * 6, (11, 0, 0), None, [1, 0, 0]):
                with self.subTest(many=many, powers=powers):
                    check_refused(self, BadCount, key_sum, many, powers)

    def test_asker_s_own(self):
        check_own(self, key_sum, 3, (0, 1, 2))
        check_own(self, key_sum, 3, (2, 1, 0))


class OneFall(unittest.TestCase):

    def test_told(self):
        self.assertEqual((0, ()), one_fall((0,)))
        self.assertEqual((0, ()), one_fall((0, 1, 2, 3, 4)))
        self.assertEqual((0, (1,)), one_fall((1, 0)))
        self.assertEqual((0, (4,)), one_fall((4, 0, 1, 2, 3)))
        self.assertEqual((2, (2, 2, 1)), one_fall((1, 3, 4, 0, 2)))
        self.assertEqual((3, (1, 1)), one_fall((0, 1, 3, 4, 2)))
        self.assertIsNone(one_fall((2, 1, 0)))

    def test_over_all_orders(self):
        for order in all_orders():
            falls = [k for k in range(len(order) - 1) if order[k] > order[k + 1]]
            told = one_fall(order)
            if len(falls) > 1:
                self.assertIsNone(told)
                continue
            k = falls[0] if falls else 0
            row = [order[place] - place for place in range(k, -1, -1)]
            self.assertEqual((k, tuple(number for number in row if number)), told)
            self.assertIs(tuple, type(told[1]))
            for other in range(k):
                self.assertEqual(order_sum(order), exchanged(order_sum(order), other))

    def test_bad_order(self):
        for thing in NO_ORDERS:
            with self.subTest(thing=thing):
                check_refused(self, BadOrder, one_fall, thing)


if __name__ == "__main__":
    unittest.main()
