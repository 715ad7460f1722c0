import itertools
import time
import unittest

from crossbends.differences import differed
from crossbends.errors import BadCount, BadOrder, BadShifts, OtherCount, OutOfStair
from crossbends.polys import at
from crossbends.shifts import by_shifts, shifted_sum, shifted_worth
from crossbends.sums import by_orders, order_sum
from tests.helper import (BIG, FORTY, FORTY_BELOW, NO_COUNTS, NO_ORDERS, added_up, all_orders, beneath, check_own,
                          check_refused, full, naive, naive_at, nested, sums_by_drawings, swapped_by_hand)

ROWS = (
    [0, 0, 0, 0, 0], [1, 2, 3, 4, 5], [-3, 0, 7, -1, 2], [5, 5, 5, 5, 5], [2, 2, -1, -1, 2],
    [FORTY, FORTY_BELOW, BIG, -BIG, 1],
)


def rows_of(many):
    return [row[:many] for row in ROWS]


def lies_below(one, other):
    """Whether at no place and height one has more ahead."""
    numbers = range(len(one) + 1)
    return all(sum(thing >= height for thing in one[:place]) <= sum(thing >= height for thing in other[:place])
               for place in numbers for height in numbers)


def no_shifts(many):
    """What are no shifts of so many things."""
    good = list(range(many))
    found = [good[1:], good + [0], good + good, tuple(good), [good], (good,), [], (), None, True, False, 0, 1, FORTY,
             "", "0" * many, "01234"[:many], [0] * 400, nested(10, 0), nested(10, None)]
    for place in range(many):
        for entry in (True, False, None, "", "0", [], [0], (), (0,), nested(9, 0)):
            found.append(good[:place] + [entry] + good[place + 1:])
    return found


class ShiftedSum(unittest.TestCase):

    def test_told(self):
        self.assertEqual([((0,), 1)], shifted_sum((0,), [7]))
        self.assertEqual([((1, 0), 1), ((0, 0), -7)], shifted_sum((1, 0), [7, 9]))
        self.assertEqual([((1, 0, 0), 1), ((0, 1, 0), 1), ((0, 0, 0), -12)], shifted_sum((0, 2, 1), [5, 7, 100]))
        self.assertEqual([((2, 0, 0), 1), ((1, 0, 0), -12), ((0, 0, 0), 35)], shifted_sum((2, 0, 1), [5, 7, 100]))
        self.assertEqual([((1, 1, 0), 1), ((1, 0, 0), -5), ((0, 1, 0), -5), ((0, 0, 0), 25)],
                         shifted_sum((1, 2, 0), [5, 7, 100]))

    def test_with_noughts(self):
        for order in all_orders():
            self.assertEqual(order_sum(order), shifted_sum(order, [0] * len(order)))

    def test_by_drawings(self):
        for many in range(1, 6):
            for shifts in rows_of(many):
                expected = sums_by_drawings(many, shifts)
                for order in all_orders(many, many):
                    self.assertEqual(expected[order], shifted_sum(order, shifts))

    def test_differed(self):
        for order in all_orders():
            for shifts in rows_of(len(order)):
                some = shifted_sum(order, shifts)
                for k in range(len(order) - 1):
                    falls = order[k] > order[k + 1]
                    expected = shifted_sum(swapped_by_hand(order, k), shifts) if falls else []
                    self.assertEqual(expected, differed(len(order), some, k))

    def test_bad_order_ahead_of_bad_shifts(self):
        for thing in NO_ORDERS:
            for shifts in ([0], [0, 1], None):
                with self.subTest(thing=thing, shifts=shifts):
                    check_refused(self, BadOrder, shifted_sum, thing, shifts)

    def test_bad_shifts(self):
        for many in range(1, 6):
            for shifts in no_shifts(many):
                with self.subTest(many=many, shifts=shifts):
                    check_refused(self, BadShifts, shifted_sum, tuple(range(many)), shifts)
                    check_refused(self, BadShifts, shifted_sum, tuple(range(many))[::-1], shifts)


class ShiftedWorth(unittest.TestCase):

    def test_told(self):
        self.assertEqual(1, shifted_worth((0,), [7], (0,)))
        self.assertEqual(2, shifted_worth((1, 0), [7, 9], (1, 0)))
        self.assertEqual(0, shifted_worth((1, 0), [7, 9], (0, 1)))
        self.assertEqual(1, shifted_worth((0, 1), [7, 9], (1, 0)))
        self.assertEqual(100 - 5, shifted_worth((0, 2, 1), [5, 7, 100], (2, 1, 0)))
        self.assertEqual(0, shifted_worth((2, 0, 1), [5, 7, 100], (1, 2, 0)))

    def test_over_pairs(self):
        for many in range(1, 6):
            orders = all_orders(many, many)
            for shifts in rows_of(many):
                sums = sums_by_drawings(many, shifts)
                others = orders if many < 5 else orders[sum(shifts[:2]) % 5::5]
                for order, other in itertools.product(orders if many < 5 else orders[::3], others):
                    told = shifted_worth(order, shifts, other)
                    self.assertIs(int, type(told))
                    self.assertEqual(naive_at(sums[order], [shifts[thing] for thing in other]), told)
                    if not lies_below(order, other):
                        self.assertEqual(0, told)

    def test_of_an_order_with_itself(self):
        for order in all_orders():
            for shifts in rows_of(len(order)):
                product = 1
                for one, other in itertools.combinations(order, 2):
                    if one > other:
                        product *= shifts[one] - shifts[other]
                self.assertEqual(product, shifted_worth(order, shifts, order))

    def test_not_0_where_the_order_lies_below(self):
        for order, other in itertools.product(all_orders(4, 4), repeat=2):
            told = shifted_worth(order, [1, 10, 100, 1000], other)
            self.assertEqual(lies_below(order, other), told != 0)

    def test_bad_order_of_either_ahead_of_all_else(self):
        for thing in NO_ORDERS:
            for order in ((0,), (0, 2, 1), (4, 3, 2, 1, 0)):
                for shifts in (list(range(len(order))), [None], None):
                    with self.subTest(thing=thing, order=order, shifts=shifts):
                        check_refused(self, BadOrder, shifted_worth, thing, shifts, order)
                        check_refused(self, BadOrder, shifted_worth, order, shifts, thing)
            check_refused(self, BadOrder, shifted_worth, thing, [0], thing)

    def test_other_count_ahead_of_bad_shifts(self):
        for one, other in itertools.permutations(range(1, 6), 2):
            for shifts in [list(range(one)), list(range(other)), [], None, [None] * one, [True] * other]:
                check_refused(self, OtherCount, shifted_worth, tuple(range(one)), shifts, tuple(range(other)))

    def test_bad_shifts(self):
        for many in range(1, 6):
            for shifts in no_shifts(many):
                with self.subTest(many=many, shifts=shifts):
                    order = tuple(range(many))
                    check_refused(self, BadShifts, shifted_worth, order, shifts, order[::-1])
                    check_refused(self, BadShifts, shifted_worth, order[::-1], shifts, order)


class ByShifts(unittest.TestCase):

    def test_told(self):
        self.assertEqual([((0,), 4)], by_shifts(1, [((0,), 4)], [7]))
        self.assertEqual([((0, 1), 7), ((1, 0), 1)], by_shifts(2, [((1, 0), 1)], [7, 9]))
        self.assertEqual([((1, 0), 1)], by_shifts(2, [((1, 0), 1)], [0, 9]))
        self.assertEqual([((0, 1, 2), 7), ((0, 2, 1), 1), ((1, 0, 2), -1)],
                         by_shifts(3, [((0, 1, 0), 1)], [5, 7, 100]))

    def test_nought(self):
        for many in range(1, 6):
            for shifts in rows_of(many):
                self.assertEqual([], by_shifts(many, [], shifts))

    def test_of_shifted_sums(self):
        for order in all_orders():
            for shifts in rows_of(len(order))[1::2]:
                self.assertEqual([(order, 1)], by_shifts(len(order), shifted_sum(order, shifts), shifts))

    def test_of_sums_of_them(self):
        numbers = [1, -1, FORTY, FORTY_BELOW, 2, -BIG, 7]
        for many in range(1, 6):
            orders = all_orders(many, many)
            for shifts in rows_of(many):
                for step in (1, 2, 5, 7):
                    pairs = [(order, numbers[place * step % 7]) for place, order in enumerate(orders[::step])]
                    some = added_up(pairs, lambda order: shifted_sum(order, shifts))
                    self.assertEqual(pairs, by_shifts(many, some, shifts))

    def test_of_polynomials_beneath_the_stair(self):
        for many in range(1, 6):
            somes = [[(powers, -3)] for powers in beneath(many)[::1 if many < 5 else 11]]
            somes.append(naive([(row, FORTY - sum(row)) for row in beneath(many)]))
            somes.append(naive([(row, BIG * (-1) ** sum(row)) for row in beneath(many)[::2]]))
            for some, shifts in itertools.product(somes, rows_of(many)):
                told = by_shifts(many, some, shifts)
                orders = [order for order, number in told]
                self.assertEqual(sorted(set(orders)), orders)
                self.assertTrue(all(type(number) is int and number != 0 for order, number in told))
                self.assertEqual(some, added_up(told, lambda order: shifted_sum(order, shifts)))

    def test_with_noughts(self):
        for many in range(1, 6):
            for some in [[(powers, 2)] for powers in beneath(many)] + [naive([(row, BIG) for row in beneath(many)])]:
                self.assertEqual(by_orders(many, some), by_shifts(many, some, [0] * many))

    def test_out_of_stair(self):
        some = [((2, 0, 0), 1), ((1, 1, 0), 1), ((1, 0, 1), 1), ((0, 2, 0), 1), ((0, 0, 5), 1)]
        self.assertEqual((1, 0, 1), check_refused(self, OutOfStair, by_shifts, 3, some, [1, 2, 3]).powers)
        for many in range(1, 6):
            for place in range(many):
                powers = (0,) * place + (many - place,) + (0,) * (many - 1 - place)
                some = naive([(powers, 1)] + [(row, -BIG) for row in beneath(many)])
                told = check_refused(self, OutOfStair, by_shifts, many, some, list(range(many)))
                self.assertEqual(powers, told.powers)

    def test_bad_shifts_ahead_of_out_of_stair(self):
        for many in range(1, 6):
            for shifts in no_shifts(many):
                for some in ([], [((0,) * many, 1)], [((20,) + (0,) * (many - 1), 1)]):
                    with self.subTest(many=many, shifts=shifts, some=some):
                        check_refused(self, BadShifts, by_shifts, many, some, shifts)

    def test_bad_count_ahead_of_all_else(self):
        beside = [([], [0]), ([((20, 0, 0), 1)], [0, 1, 2]), ([((0, 0, 0), 1)], None), ([], [None]), ([], [])]
        for many in NO_COUNTS + [nested(10, 2)]:
            for some, shifts in beside:
                with self.subTest(many=many, shifts=shifts):
                    check_refused(self, BadCount, by_shifts, many, some, shifts)


class Whole(unittest.TestCase):

    def test_asker_s_own(self):
        for order in ((0,), (0, 1, 2), (0, 2, 1), (2, 1, 0)):
            check_own(self, shifted_sum, order, list(range(len(order))))
            check_own(self, shifted_worth, order, list(range(len(order))), order)
        for some in ([], [((2, 0, 0), 1), ((0, 1, 0), -4)], [((0, 0, 0), 1)]):
            check_own(self, by_shifts, 3, some, [3, 4, 5])

    def test_told_numbers_as_shifts_told_soon(self):
        great = at([((20,), 1)], [FORTY])
        shifts = [great, -great, 0, great + 1, 1]
        begun = time.monotonic()
        for order in all_orders(5, 5)[::17]:
            some = shifted_sum(order, shifts)
            self.assertEqual([(order, 1)], by_shifts(5, some, shifts))
            self.assertNotEqual(0, shifted_worth(order, shifts, order))
        self.assertLess(time.monotonic() - begun, 20)
        some = full(5, 1, great)
        self.assertEqual((0, 0, 0, 0, 1), check_refused(self, OutOfStair, by_shifts, 5, some, shifts).powers)


if __name__ == "__main__":
    unittest.main()
