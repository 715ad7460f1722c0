import unittest

from crossbends.differences import differed
from crossbends.errors import BadCount, BadOrder, OutOfStair
from crossbends.polys import times
from crossbends.sums import by_orders, order_sum, out_of_stair
from tests.helper import (BIG, FORTY, FORTY_BELOW, NO_COUNTS, NO_ORDERS, added_up, all_orders, beneath, check_own,
                          check_refused, full, naive, nested, sums_by_drawings, swapped_by_hand)

OF_A_POLYNOMIAL = (out_of_stair, by_orders)


def stair(many):
    return tuple(range(many - 1, -1, -1))


def code_by_hand(order):
    return tuple(sum(b < a for b in order[i:]) for i, a in enumerate(order))


def some_sums(many):
    """Rising lists of tuples (order, number) of all kinds."""
    orders = all_orders(many, many)
    numbers = [1, -1, FORTY, FORTY_BELOW, 2, -BIG, 7]
    for step in (1, 2, 3, 5, 7):
        for start in range(min(step, 3)):
            chosen = orders[start::step]
            yield [(order, numbers[(place * step + start) % 7]) for place, order in enumerate(chosen)]


class OrderSum(unittest.TestCase):

    def test_told(self):
        self.assertEqual([((0,), 1)], order_sum((0,)))
        self.assertEqual([((1, 0), 1)], order_sum((1, 0)))
        self.assertEqual([((1, 0, 0), 1), ((0, 1, 0), 1)], order_sum((0, 2, 1)))
        self.assertEqual([((1, 1, 0), 1)], order_sum((1, 2, 0)))
        self.assertEqual([((2, 0, 0), 1)], order_sum((2, 0, 1)))
        self.assertEqual([((2, 0, 0, 0), 1), ((1, 1, 0, 0), 1), ((1, 0, 1, 0), 1)], order_sum((1, 0, 3, 2)))

    def test_by_drawings(self):
        for many in range(1, 6):
            expected = sums_by_drawings(many, [0] * many)
            for order in all_orders(many, many):
                self.assertEqual(expected[order], order_sum(order))

    def test_the_plain_one_and_the_one_turned_about(self):
        for many in range(1, 6):
            self.assertEqual([((0,) * many, 1)], order_sum(tuple(range(many))))
            self.assertEqual([(stair(many), 1)], order_sum(stair(many)))

    def test_differed(self):
        for order in all_orders():
            for k in range(len(order) - 1):
                expected = order_sum(swapped_by_hand(order, k)) if order[k] > order[k + 1] else []
                self.assertEqual(expected, differed(len(order), order_sum(order), k))

    def test_least_powers_and_numbers(self):
        for order in all_orders():
            told = order_sum(order)
            self.assertEqual((code_by_hand(order), 1), told[-1])
            self.assertTrue(all(number > 0 for powers, number in told))
            self.assertEqual(naive(told), told)

    def test_widened(self):
        for order in all_orders():
            many = len(order)
            for wide in range(many, 6):
                behind = (0,) * (wide - many)
                expected = [(powers + behind, number) for powers, number in order_sum(order)]
                self.assertEqual(expected, order_sum(order + tuple(range(many, wide))))

    def test_bad_order(self):
        for thing in NO_ORDERS:
            with self.subTest(thing=thing):
                check_refused(self, BadOrder, order_sum, thing)

    def test_asker_s_own(self):
        for order in ((0,), (0, 1, 2), (0, 2, 1), (0, 4, 3, 2, 1), (4, 3, 2, 1, 0)):
            check_own(self, order_sum, order)


class OutOf(unittest.TestCase):

    def test_none_beneath_the_stair(self):
        for many in range(1, 6):
            self.assertIsNone(out_of_stair(many, []))
            self.assertIsNone(out_of_stair(many, naive([(powers, FORTY) for powers in beneath(many)])))
            for powers in beneath(many):
                self.assertIsNone(out_of_stair(many, [(powers, -1)]))

    def test_one_more_at_a_place(self):
        for many in range(1, 6):
            for place in range(many):
                powers = (0,) * place + (many - place,) + (0,) * (many - 1 - place)
                some = naive([(powers, 1)] + [(row, -BIG) for row in beneath(many)])
                self.assertEqual(powers, out_of_stair(many, [(powers, 1)]))
                self.assertEqual(powers, out_of_stair(many, some))
                self.assertEqual(powers, check_refused(self, OutOfStair, by_orders, many, some).powers)

    def test_the_greatest_that_are_out(self):
        some = [((2, 0, 0), 1), ((1, 1, 0), 1), ((1, 0, 1), 1), ((0, 2, 0), 1), ((0, 0, 5), 1)]
        self.assertEqual((1, 0, 1), out_of_stair(3, some))
        self.assertEqual((1, 0, 1), check_refused(self, OutOfStair, by_orders, 3, some).powers)
        for many in range(1, 6):
            some = full(many, 4 if many > 3 else 6)
            allowed = dict.fromkeys(beneath(many))
            while some:
                out = [powers for powers, number in some if powers not in allowed]
                expected = max(out, default=None)
                self.assertEqual(expected, out_of_stair(many, some))
                if expected:
                    self.assertEqual(expected, check_refused(self, OutOfStair, by_orders, many, some).powers)
                some = some[1 + len(some) // 20:]

    def test_thousands_of_terms(self):
        half = full(5, 10, FORTY)
        some = times(half, half)
        self.assertEqual((20, 0, 0, 0, 0), out_of_stair(5, some))
        self.assertEqual((20, 0, 0, 0, 0), check_refused(self, OutOfStair, by_orders, 5, some).powers)

    def test_bad_count_ahead_of_out_of_stair(self):
        for many in NO_COUNTS + [nested(10, 2)]:
            for function in OF_A_POLYNOMIAL:
                with self.subTest(function=function, many=many):
                    check_refused(self, BadCount, function, many, [])
                    check_refused(self, BadCount, function, many, [((20, 0, 0), 1)])

    def test_what_is_handed_in_stays(self):
        check_own(self, out_of_stair, 3, [((2, 0, 0), 1), ((1, 0, 1), 1)])
        check_own(self, out_of_stair, 3, [((2, 0, 0), 1)])


class ByOrders(unittest.TestCase):

    def test_told(self):
        self.assertEqual([((0, 2, 1), 1), ((1, 0, 2), -1)], by_orders(3, [((0, 1, 0), 1)]))
        self.assertEqual([((0, 1, 2), 5)], by_orders(3, [((0, 0, 0), 5)]))
        self.assertEqual([((0,), FORTY_BELOW)], by_orders(1, [((0,), FORTY_BELOW)]))

    def test_nought(self):
        for many in range(1, 6):
            self.assertEqual([], by_orders(many, []))

    def test_of_order_sums(self):
        for order in all_orders():
            self.assertEqual([(order, 1)], by_orders(len(order), order_sum(order)))

    def test_of_sums_of_them(self):
        for many in range(1, 6):
            for pairs in some_sums(many):
                self.assertEqual(pairs, by_orders(many, added_up(pairs, order_sum)))

    def test_of_all_terms_beneath_the_stair(self):
        for many in range(1, 6):
            for powers in beneath(many):
                self.check_by_orders(many, [(powers, -3)])
            self.check_by_orders(many, naive([(row, FORTY - sum(row)) for row in beneath(many)]))
            self.check_by_orders(many, naive([(row, BIG * (-1) ** sum(row)) for row in beneath(many)[::2]]))

    def check_by_orders(self, many, some):
        told = by_orders(many, some)
        orders = [order for order, number in told]
        self.assertEqual(sorted(set(orders)), orders)
        self.assertTrue(all(type(number) is int and number != 0 for order, number in told))
        self.assertEqual(some, added_up(told, order_sum))

    def test_asker_s_own(self):
        check_own(self, by_orders, 3, [((2, 0, 0), 1), ((0, 1, 0), -4)])
        check_own(self, by_orders, 3, [])


if __name__ == "__main__":
    unittest.main()
