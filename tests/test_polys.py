import itertools
import time
import unittest

from crossbends.errors import BadCount, BadPowers, TooGreat
from crossbends.polys import at, exchanged, less, made, plus, times
from tests.helper import (FORTY, FORTY_BELOW, NO_COUNTS, check_own, check_refused, full, naive, naive_at,
                          naive_product, nested, some_polynomials)

class Made(unittest.TestCase):

    def test_like_powers_are_added_up(self):
        terms = [((0, 1), 2), ((1, 0), 3), ((0, 1), 5)]
        self.assertEqual([((1, 0), 3), ((0, 1), 7)], made(2, terms))

    def test_noughts_are_left_out(self):
        self.assertEqual([], made(2, [((0, 1), 2), ((0, 1), -2)]))
        self.assertEqual([], made(2, [((0, 1), 0)]))
        self.assertEqual([((3, 0), 1)], made(2, [((3, 1), 0), ((3, 0), 1)]))
        self.assertEqual([((0, 1), 4)], made(2, [((0, 1), 2), ((0, 1), -2), ((0, 1), 4)]))

    def test_greater_powers_first(self):
        terms = [
            ((10, 0, 0), 1), ((2, 18, 0), -4), ((1, 0, 2), 2), ((1, 0, 0), 9),
            ((0, 3, 0), -1), ((0, 2, 15), 5), ((0, 0, 9), 7), ((0, 0, 0), 3),
        ]
        for turn in range(len(terms)):
            self.assertEqual(terms, made(3, terms[turn:] + terms[:turn]))
            self.assertEqual(terms, made(3, list(reversed(terms[turn:])) + terms[:turn]))

    def test_no_terms(self):
        for many in range(1, 6):
            self.assertEqual([], made(many, []))

    def test_one_and_five_unknowns(self):
        self.assertEqual([((20,), 1), ((0,), -1)], made(1, [((0,), -1), ((20,), 1)]))
        self.assertEqual(
            [((4, 4, 4, 4, 4), 2), ((0, 0, 0, 0, 20), 1)],
            made(5, [((0, 0, 0, 0, 20), 1), ((4, 4, 4, 4, 4), 2)]))

    def test_numbers_of_forty_figures(self):
        self.assertEqual([((1,), 2 * FORTY)], made(1, [((1,), FORTY), ((1,), FORTY)]))
        self.assertEqual([((1,), FORTY_BELOW)], made(1, [((1,), FORTY_BELOW)]))
        self.assertEqual([], made(1, [((1,), FORTY_BELOW), ((1,), FORTY)]))

    def test_bad_count(self):
        for many in NO_COUNTS + [nested(10, 3)]:
            with self.subTest(many=many):
                check_refused(self, BadCount, made, many, [])
                check_refused(self, BadCount, made, many, [((1, 0, 0), 1)])

    def test_bad_count_ahead_of_bad_powers(self):
        for many in NO_COUNTS:
            check_refused(self, BadCount, made, many, [(None, 1)])

    def test_bad_powers(self):
        wrong = [
            (), (1,), (1, 0, 0), (-1, 0), (0, -1), (21, -1), (21, 0), (20, 1), (11, 10), (FORTY, 0), (0, FORTY_BELOW),
            [1, 0], [], "10", "", "ab", None, True, False, 0, 1, FORTY, (None, 0), (0, None), (True, 0), (0, False),
            ("1", 0), (0, "0"), ((0,), 0), (0, [0]), ((0, 0),), nested(10, 0), (0, nested(9, 0)), tuple(range(400)),
        ]
        for powers in wrong:
            for number in (1, 0, -FORTY):
                with self.subTest(powers=powers, number=number):
                    check_refused(self, BadPowers, made, 2, [(powers, number)])
                    check_refused(self, BadPowers, made, 2, [((0, 0), 1), (powers, number), ((1, 1), 1)])
                    check_refused(self, BadPowers, made, 2, [((0, 0), 1), ((0, 0), -1), (powers, number)])

    def test_powers_of_one_less_or_more_for_each_count(self):
        for many in range(1, 6):
            made(many, [((0,) * many, 1)])
            check_refused(self, BadPowers, made, many, [((0,) * (many - 1), 1)])
            check_refused(self, BadPowers, made, many, [((0,) * (many + 1), 1)])

    def test_just_twenty_together(self):
        for many in range(1, 6):
            for place in range(many):
                powers = [0] * many
                powers[place] = 20
                self.assertEqual([(tuple(powers), 1)], made(many, [(tuple(powers), 1)]))
                powers[-1 - place] += 1
                check_refused(self, BadPowers, made, many, [(tuple(powers), 1)])

    def test_terms_stay(self):
        terms = [((0, 1), 2), ((1, 0), 3), ((0, 1), 5), ((2, 2), 0)]
        check_own(self, made, 2, terms)
        check_own(self, made, 2, [((1, 0), 3), ((0, 1), 7)])

    def test_four_hundred_terms(self):
        terms = [((i % 5, i % 4, i % 7, i % 3, i % 2), (i - 200) * FORTY) for i in range(400)]
        self.assertEqual(naive(terms), made(5, terms))


class Sums(unittest.TestCase):

    def test_told(self):
        x0, x1, one = [((1, 0), 1)], [((0, 1), 1)], [((0, 0), 1)]
        self.assertEqual([((1, 0), 1), ((0, 1), 1)], plus(x0, x1))
        self.assertEqual([((1, 0), 1), ((0, 1), 1)], plus(x1, x0))
        self.assertEqual([((1, 0), -1), ((0, 1), 1)], less(x1, x0))
        self.assertEqual([((2, 0), 1), ((0, 2), -1)], times(plus(x0, x1), less(x0, x1)))
        self.assertEqual([((1, 1), 1), ((1, 0), 1)], times(x0, plus(x1, one)))

    def test_over_some_polynomials(self):
        for many in range(1, 6):
            for one, other in itertools.product(some_polynomials(many), repeat=2):
                opposite = [(powers, -number) for powers, number in other]
                self.assertEqual(naive(one + other), plus(one, other))
                self.assertEqual(naive(one + opposite), less(one, other))
                self.assertEqual(naive_product(one, other), times(one, other))

    def test_nought_and_one(self):
        for many in range(1, 6):
            one = [((0,) * many, 1)]
            for some in some_polynomials(many) + [[((20,) + (0,) * (many - 1), 3)]]:
                self.assertEqual(some, plus(some, []))
                self.assertEqual(some, plus([], some))
                self.assertEqual(some, less(some, []))
                self.assertEqual([(powers, -number) for powers, number in some], less([], some))
                self.assertEqual([], less(some, some))
                self.assertEqual([], times(some, []))
                self.assertEqual([], times([], some))
                self.assertEqual(some, times(some, one))
                self.assertEqual(some, times(one, some))
        self.assertEqual([], plus([], []))
        self.assertEqual([], times([], []))

    def test_one_polynomial_handed_in_twice(self):
        some = [((1, 0), 1), ((0, 0), -3)]
        self.assertEqual([((1, 0), 2), ((0, 0), -6)], plus(some, some))
        self.assertEqual([], less(some, some))
        self.assertEqual([((2, 0), 1), ((1, 0), -6), ((0, 0), 9)], times(some, some))
        self.assertEqual([((1, 0), 1), ((0, 0), -3)], some)

    def test_numbers_that_cancel(self):
        self.assertEqual([((0, 1), 1)], plus([((1, 0), 2), ((0, 1), 1)], [((1, 0), -2)]))
        cubes = times(less([((1, 0), 1)], [((0, 1), 1)]), [((2, 0), 1), ((1, 1), 1), ((0, 2), 1)])
        self.assertEqual([((3, 0), 1), ((0, 3), -1)], cubes)

    def test_great_numbers_beside_small_ones(self):
        for great in (FORTY, FORTY_BELOW, 2 ** 120, -2 ** 120, 2 ** 120 - 1):
            for small in (1, -1, great):
                one = [((0, 3), great), ((0, 2), small), ((0, 1), -small), ((0, 0), -great)]
                other = [((1, 2), small), ((1, 1), great), ((0, 1), -great), ((0, 0), -1)]
                self.assertEqual(naive_product(one, other), times(one, other))
                self.assertEqual(naive_product(one, one), times(one, one))

    def test_too_great_just_above_twenty(self):
        for many in range(1, 6):
            for weight in range(21):
                one = naive([((weight,) + (0,) * (many - 1), 1), ((0,) * many, 1)])
                other = naive([((0,) * (many - 1) + (20 - weight,), 1), ((0,) * many, 5)])
                self.assertEqual(naive_product(one, other), times(one, other))
                if weight < 20:
                    more = naive([((0,) * (many - 1) + (21 - weight,), 1), ((0,) * many, 5)])
                    check_refused(self, TooGreat, times, one, more)
                    check_refused(self, TooGreat, times, more, one)

    def test_too_great_by_powers_together_not_first_ones(self):
        one = [((2, 0, 0), 1), ((1, 5, 5), 1)]
        self.assertEqual([((3, 4, 4), 1), ((2, 9, 9), 1)], times(one, [((1, 4, 4), 1)]))
        check_refused(self, TooGreat, times, one, [((0, 5, 5), 1)])
        check_refused(self, TooGreat, times, [((0, 5, 5), 1)], one)

    def test_twenty_times_nought(self):
        self.assertEqual([], times([((20,), 1)], []))
        self.assertEqual([], times([], [((20,), 1)]))

    def test_asker_s_own(self):
        some = [((2, 0), 3), ((0, 1), -1)]
        for function in (plus, less, times):
            check_own(self, function, list(some), [((2, 0), -3), ((1, 1), 2)])
            check_own(self, function, list(some), [])
            check_own(self, function, [], list(some))
            check_own(self, function, list(some), [((0, 0), 1)])

    def test_told_soon_for_thousands_of_terms(self):
        one = full(5, 10, FORTY)
        self.assertEqual(3003, len(one))
        begun = time.monotonic()
        product = times(one, one)
        doubled = plus(product, product)
        self.assertEqual([], less(less(doubled, product), product))
        point = [3, -2, FORTY, 1, FORTY_BELOW]
        self.assertEqual(naive_at(one, point) ** 2, at(product, point))
        self.assertLess(time.monotonic() - begun, 20)


class Exchanged(unittest.TestCase):

    def test_at_every_k(self):
        for many in range(2, 6):
            for k in range(many - 1):
                for some in some_polynomials(many):
                    expected = []
                    for powers, number in some:
                        row = list(powers)
                        row[k], row[k + 1] = row[k + 1], row[k]
                        expected.append((tuple(row), number))
                    self.assertEqual(naive(expected), exchanged(some, k))
                    self.assertEqual(some, exchanged(exchanged(some, k), k))

    def test_told(self):
        some = [((2, 0, 1), 5), ((1, 3, 0), -1)]
        self.assertEqual([((3, 1, 0), -1), ((0, 2, 1), 5)], exchanged(some, 0))
        self.assertEqual([((2, 1, 0), 5), ((1, 0, 3), -1)], exchanged(some, 1))

    def test_asker_s_own(self):
        check_own(self, exchanged, [((2, 0, 1), 5), ((1, 3, 0), -1)], 0)
        check_own(self, exchanged, [((1, 1), 5)], 0)
        check_own(self, exchanged, [], 0)


class At(unittest.TestCase):

    def test_told(self):
        some = [((2, 1), 3), ((0, 1), -1), ((0, 0), 7)]
        self.assertEqual(3 * 4 * 5 - 5 + 7, at(some, [2, 5]))
        self.assertEqual(7, at(some, [0, 0]))
        self.assertEqual(3 * 4 * -5 + 5 + 7, at(some, [-2, -5]))

    def test_nought(self):
        for many in range(1, 6):
            self.assertEqual(0, at([], [FORTY] * many))

    def test_over_some_points(self):
        worths = [0, 1, -1, 2, -3, FORTY, FORTY_BELOW]
        for many in range(1, 6):
            points = [[worths[(turn * (place + 1)) % 7] for place in range(many)] for turn in range(1, 8)]
            for some in some_polynomials(many) + [[((0,) * (many - 1) + (20,), FORTY)]]:
                for point in points:
                    self.assertEqual(naive_at(some, point), at(some, point))

    def test_point_stays(self):
        check_own(self, at, [((2, 1), 3), ((0, 1), -1)], [2, 5])


if __name__ == "__main__":
    unittest.main()
