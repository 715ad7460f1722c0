import itertools
import unittest

from crossbends.errors import BadCode, BadCount, BadOrder, OtherCount
from crossbends.orders import back, code, falls, is_order, joined, order_of, widened, wrong_pairs
from tests.helper import FORTY, NO_COUNTS, NO_ORDERS, all_orders, check_own, check_refused, nested


class IsOrder(unittest.TestCase):

    def test_orders(self):
        self.assertEqual(1 + 2 + 6 + 24 + 120, len(all_orders()))
        for order in all_orders():
            self.assertIs(True, is_order(order))

    def test_anything_else(self):
        for thing in NO_ORDERS:
            with self.subTest(thing=thing):
                self.assertIs(False, is_order(thing))

    def test_all_rows_of_small_numbers(self):
        for many in range(0, 5):
            for row in itertools.product(range(-1, 5), repeat=many):
                self.assertIs(many > 0 and sorted(row) == list(range(many)), is_order(row))
                self.assertIs(False, is_order(list(row)))

    def test_a_thing_s_place_taken(self):
        for order in all_orders():
            for place in range(len(order)):
                for wrong in (True, False, None, str(order[place]), (order[place],), [order[place]], -1, len(order)):
                    thing = order[:place] + (wrong,) + order[place + 1:]
                    self.assertIs(False, is_order(thing))


class Refused(unittest.TestCase):

    def test_bad_order(self):
        for thing in NO_ORDERS:
            for function in (back, wrong_pairs, falls, code):
                with self.subTest(thing=thing, function=function):
                    check_refused(self, BadOrder, function, thing)

    def test_bad_order_ahead_of_bad_count(self):
        for thing in NO_ORDERS:
            check_refused(self, BadOrder, widened, thing, 5)
            check_refused(self, BadOrder, widened, thing, 6)
            check_refused(self, BadOrder, widened, thing, None)

    def test_bad_order_in_either_place_ahead_of_other_count(self):
        for thing in NO_ORDERS:
            for order in ((0,), (1, 0), (0, 2, 1), (4, 3, 2, 1, 0)):
                check_refused(self, BadOrder, joined, thing, order)
                check_refused(self, BadOrder, joined, order, thing)
            check_refused(self, BadOrder, joined, thing, thing)

    def test_other_count(self):
        for one, other in itertools.permutations(range(1, 6), 2):
            check_refused(self, OtherCount, joined, tuple(range(one)), tuple(reversed(range(other))))


class Joined(unittest.TestCase):

    def test_told(self):
        self.assertEqual((2, 1, 0), joined((2, 0, 1), (0, 2, 1)))
        self.assertEqual((1, 0, 2), joined((2, 0, 1), (2, 1, 0)))
        self.assertEqual((1, 2, 0), joined((0, 2, 1), (2, 1, 0)))

    def test_over_all_pairs(self):
        for many in range(1, 6):
            orders = all_orders(many, many)
            for one, other in itertools.product(orders, repeat=2):
                told = joined(one, other)
                self.assertIsInstance(told, tuple)
                for place in range(many):
                    self.assertEqual(one[other[place]], told[place])


class OfOneOrder(unittest.TestCase):

    def test_back(self):
        self.assertEqual((1, 2, 0), back((2, 0, 1)))
        for order in all_orders():
            plain = tuple(range(len(order)))
            told = back(order)
            self.assertIs(True, is_order(told))
            self.assertEqual(plain, joined(order, told))
            self.assertEqual(plain, joined(told, order))

    def test_wrong_pairs(self):
        self.assertEqual([(0, 1), (0, 2)], wrong_pairs((2, 0, 1)))
        for order in all_orders():
            pairs = itertools.combinations(range(len(order)), 2)
            self.assertEqual([(i, j) for i, j in pairs if order[i] > order[j]], wrong_pairs(order))
            self.assertEqual([], wrong_pairs(tuple(sorted(order))))

    def test_falls(self):
        self.assertEqual([0], falls((2, 0, 1)))
        self.assertEqual([0, 2, 3], falls((2, 0, 4, 3, 1)))
        for order in all_orders():
            expected = [k for k, (a, b) in enumerate(zip(order, order[1:])) if a > b]
            self.assertEqual(expected, falls(order))

    def test_code(self):
        self.assertEqual((2, 0, 2, 1, 0), code((2, 0, 4, 3, 1)))
        self.assertEqual((0,), code((0,)))
        for order in all_orders():
            expected = tuple(sum(b < a for b in order[i + 1:]) for i, a in enumerate(order))
            self.assertEqual(expected, code(order))

    def test_asker_s_own(self):
        for order in ((0,), (0, 1, 2), (2, 0, 1), (4, 3, 2, 1, 0)):
            check_own(self, wrong_pairs, order)
            check_own(self, falls, order)


class OrderOf(unittest.TestCase):

    def test_told(self):
        self.assertEqual((2, 0, 4, 3, 1), order_of((2, 0, 2, 1, 0)))

    def test_the_one_order_with_this_code(self):
        for order in all_orders():
            self.assertEqual(order, order_of(code(order)))

    def test_all_rows_of_small_numbers(self):
        for many in range(1, 6):
            for row in itertools.product(range(-1, many + 1), repeat=many):
                if all(0 <= number < many - i for i, number in enumerate(row)):
                    self.assertEqual(row, code(order_of(row)))
                elif many < 5 or row[0] == 4:
                    check_refused(self, BadCode, order_of, row)

    def test_bad_code(self):
        wrong = [
            (), [], [0], [1, 0], (1,), (-1,), (0, 1), (2, 0), (1, -1), (0, 0, 0, 0, 0, 0), (FORTY, 0), (-FORTY, 0),
            (True, 0), (1, False), (False,), (None, 0), ("1", 0), ((1,), 0), ([1], 0), (1, None), "10", "0", "",
            None, True, False, 0, 1, FORTY, nested(10, 0), (0,) * 400, [0] * 400,
        ]
        for thing in wrong:
            with self.subTest(thing=thing):
                check_refused(self, BadCode, order_of, thing)


class Widened(unittest.TestCase):

    def test_over_all_orders(self):
        self.assertEqual((1, 0, 2, 3, 4), widened((1, 0), 5))
        for order in all_orders():
            for many in range(len(order), 6):
                told = widened(order, many)
                self.assertEqual(order, told[:len(order)])
                self.assertEqual(tuple(range(len(order), many)), told[len(order):])
                self.assertEqual(many, len(told))

    def test_bad_count(self):
        for order in all_orders():
            for many in list(range(-1, len(order))) + [6, 7]:
                check_refused(self, BadCount, widened, order, many)
        for many in NO_COUNTS + [nested(10, 4)]:
            check_refused(self, BadCount, widened, (0,), many)
            check_refused(self, BadCount, widened, (2, 0, 1), many)


if __name__ == "__main__":
    unittest.main()
