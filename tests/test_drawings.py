import itertools
import unittest

from crossbends.drawings import climbed, drawing_word, drawings, ends, ladders, lowest, terms_of, twice
from crossbends.errors import BadCount, BadDrawing, BadOrder, Spare
from crossbends.polys import made
from crossbends.sums import order_sum
from crossbends.words import spare, word_order
from tests.helper import (FORTY, FORTY_BELOW, NO_COUNTS, NO_ORDERS, all_drawings, all_orders, check_own, check_refused,
                          drawn, nested, pairs_wrong, stair_cells)

OF_A_DRAWING = (ends, drawing_word, twice, ladders, climbed, terms_of)


def is_short(many, drawing):
    return len(drawing) == pairs_wrong(drawn(many, drawing)[0])


def ladders_by_hand(drawing):
    """All ladders, by trying each cross and each m."""
    found = []
    for i, j in drawing:
        for m in range(1, i + 1):
            free = [(i, j + 1), (i - m, j), (i - m, j + 1)]
            between = [(row, column) for row in range(i - m + 1, i) for column in (j, j + 1)]
            if not set(free) & set(drawing) and set(between) <= set(drawing):
                found.append(sorted((set(drawing) - {(i, j)}) | {(i - m, j + 1)}))
    return sorted(found)


def lowest_by_hand(order):
    return [(i, j) for i in range(len(order)) for j in range(sum(b < order[i] for b in order[i + 1:]))]


def no_drawings(many):
    """What is no drawing of so many things."""
    cells = stair_cells(many)
    wrong = [(0, many - 1), (many - 1, 0), (many, 0), (0, 5), (5, 5), (-1, 0), (0, -1), (-1, 1), (FORTY, 0),
             (0, FORTY_BELOW), (FORTY, FORTY_BELOW), (True, 0), (0, True), (False, 0), (0, False), (None, 0), (0, None),
             ("0", 0), (0, "0"), ([0], 0), (0, [0]), ((0,), 0), (0, (0, 0)), (), (0,), (0, 0, 0), ((0, 0),), [], [0, 0],
             "", "00", None, True, False, 0, 1, FORTY, nested(9, 0), (0, nested(8, 0))]
    if many > 1:
        wrong += [(i, many - 1 - i) for i in range(many)]
    found = [[thing] for thing in wrong] + [[None] * 400, [()] * 400]
    found += [(), (0, 0), ((0, 0),), "", "00", "-", None, True, False, 0, 1, FORTY, nested(10, 0)]
    found.append(tuple(cells) or ((),))
    for cell in cells:
        found += [[cell, cell], [list(cell)], tuple([cell]), [cell + (0,)], [cell[:1]], [cell, None], [cell] * 400]
        found += [[cell, thing] for thing in wrong]
        found += [[cell, other] for other in cells if other < cell]
    if many > 2:
        found += [cells[::-1], cells[1:] + cells[:1], cells + cells, cells + cells[-1:], cells[:-1] + [None]]
    return found


class Refused(unittest.TestCase):

    def test_bad_drawing(self):
        for many in range(1, 6):
            for drawing in no_drawings(many):
                for function in OF_A_DRAWING:
                    with self.subTest(function=function, many=many, drawing=drawing):
                        check_refused(self, BadDrawing, function, many, drawing)

    def test_bad_count_ahead_of_bad_drawing(self):
        for many in NO_COUNTS + [nested(10, 2)]:
            for drawing in ([], [(0, 0)], [(0, 9)], None, "-", (), [(0, 0), (0, 0)], [None]):
                for function in OF_A_DRAWING:
                    with self.subTest(function=function, many=many, drawing=drawing):
                        check_refused(self, BadCount, function, many, drawing)

    def test_bad_order(self):
        for thing in NO_ORDERS:
            with self.subTest(thing=thing):
                check_refused(self, BadOrder, lowest, thing)
                check_refused(self, BadOrder, drawings, thing)

    def test_only_the_empty_drawing_of_one_thing(self):
        self.assertEqual((0,), ends(1, []))
        self.assertEqual([], drawing_word(1, []))
        self.assertIsNone(twice(1, []))
        self.assertEqual([], ladders(1, []))
        self.assertEqual([[]], climbed(1, []))
        self.assertEqual((0,), terms_of(1, []))
        self.assertEqual([], lowest((0,)))
        self.assertEqual([[]], drawings((0,)))


class OfDrawings(unittest.TestCase):

    def test_ends_told(self):
        self.assertEqual((0, 1, 2), ends(3, []))
        self.assertEqual((2, 1, 0), ends(3, [(0, 0), (0, 1), (1, 0)]))
        self.assertEqual((2, 0, 1), ends(3, [(0, 0), (0, 1)]))
        self.assertEqual((1, 2, 0), ends(3, [(0, 0), (1, 0)]))
        self.assertEqual((0, 2, 1), ends(3, [(0, 1)]))
        self.assertEqual((0, 2, 1), ends(3, [(1, 0)]))
        self.assertEqual((0, 1, 2), ends(3, [(0, 1), (1, 0)]))

    def test_drawing_word_told(self):
        self.assertEqual([1, 0, 1], drawing_word(3, [(0, 0), (0, 1), (1, 0)]))
        self.assertEqual([2, 1, 0, 2, 1, 2], drawing_word(4, stair_cells(4)))
        self.assertEqual([2, 0, 1, 3], drawing_word(5, [(0, 0), (0, 2), (1, 0), (2, 1)]))

    def test_the_empty_and_the_full_drawing(self):
        for many in range(1, 6):
            plain = tuple(range(many))
            self.assertEqual(plain, ends(many, []))
            self.assertEqual([], drawing_word(many, []))
            self.assertEqual((0,) * many, terms_of(many, []))
            self.assertIsNone(twice(many, []))
            cells = stair_cells(many)
            self.assertEqual(plain[::-1], ends(many, cells))
            self.assertEqual(plain[::-1], terms_of(many, cells))
            self.assertIsNone(twice(many, cells))
            self.assertEqual([], ladders(many, cells))

    def test_ends_and_words_of_all_drawings(self):
        for many in range(1, 6):
            for drawing in all_drawings(many):
                order = drawn(many, drawing)[0]
                word = [i + j for i in range(many) for j in range(many, -1, -1) if (i, j) in drawing]
                self.assertEqual(order, ends(many, drawing))
                self.assertEqual(word, drawing_word(many, drawing))
                self.assertEqual(order, word_order(many, word))

    def test_terms_of_all_drawings(self):
        self.assertEqual((2, 0, 1, 0, 0), terms_of(5, [(0, 0), (0, 3), (2, 1)]))
        for many in range(1, 6):
            for drawing in all_drawings(many):
                counts = [0] * many
                for i, j in drawing:
                    counts[i] += 1
                self.assertEqual(tuple(counts), terms_of(many, drawing))

    def test_twice(self):
        self.assertEqual(((0, 1), (1, 0)), twice(3, [(0, 1), (1, 0)]))
        found = 0
        for many in range(1, 6):
            for drawing in all_drawings(many):
                told = twice(many, drawing)
                order, lines = drawn(many, drawing)
                self.assertEqual(spare(many, drawing_word(many, drawing)) is None, told is None)
                if is_short(many, drawing):
                    self.assertIsNone(told)
                    continue
                found += 1
                self.assertIsInstance(told, tuple)
                one, other = told
                self.assertLess(one, other)
                self.assertTrue(one in drawing and other in drawing)
                self.assertEqual(lines[one], lines[other])
        self.assertGreater(found, 500)

    def test_ladders_told(self):
        self.assertEqual([[(0, 1)]], ladders(3, [(1, 0)]))
        self.assertEqual([], ladders(3, [(0, 0)]))
        self.assertEqual([], ladders(3, [(0, 0), (1, 0)]))
        self.assertEqual([[(0, 1), (2, 0)]], ladders(4, [(1, 0), (2, 0)]))
        self.assertEqual([[(0, 0), (0, 2), (2, 0)]], ladders(4, [(0, 0), (1, 1), (2, 0)]))
        tall = [(1, 0), (1, 1), (2, 0), (2, 1), (3, 0)]
        self.assertIn([(0, 1), (1, 0), (1, 1), (2, 0), (2, 1)], ladders(5, tall))

    def test_ladders_of_all_drawings(self):
        for many in range(1, 6):
            for drawing in all_drawings(many):
                told = ladders(many, drawing)
                self.assertEqual(ladders_by_hand(drawing), told)
                for other in told:
                    self.assertEqual(drawn(many, drawing)[0], ends(many, other))


class OfOrders(unittest.TestCase):

    def test_lowest(self):
        self.assertEqual([(0, 0), (0, 1), (2, 0)], lowest((2, 0, 3, 1)))
        for order in all_orders():
            told = lowest(order)
            self.assertEqual(lowest_by_hand(order), told)
            self.assertEqual(order, ends(len(order), told))
            self.assertIsNone(twice(len(order), told))

    def test_drawings_told(self):
        self.assertEqual([[(0, 1)], [(1, 0)]], drawings((0, 2, 1)))
        self.assertEqual([[(0, 0), (0, 2)], [(0, 0), (1, 1)], [(0, 0), (2, 0)]], drawings((1, 0, 3, 2)))
        self.assertEqual(14, len(drawings((0, 4, 3, 2, 1))))

    def test_drawings_of_all_orders(self):
        for many in range(1, 6):
            expected = {order: [] for order in all_orders(many, many)}
            for drawing in all_drawings(many):
                if is_short(many, drawing):
                    expected[drawn(many, drawing)[0]].append(drawing)
            for order in expected:
                told = drawings(order)
                self.assertEqual(sorted(expected[order]), told)
                terms = [(terms_of(many, drawing), 1) for drawing in told]
                self.assertEqual(order_sum(order), made(many, terms))


class Climbed(unittest.TestCase):

    def test_of_every_drawing_of_an_order(self):
        for order in all_orders():
            many = len(order)
            for drawing in drawings(order):
                told = climbed(many, drawing)
                self.assertEqual(lowest_by_hand(order), told[0])
                self.assertEqual(drawing, told[-1])
                for one, following in itertools.pairwise(told):
                    self.assertIn(following, ladders_by_hand(one))

    def test_of_the_lowest_one(self):
        for order in all_orders():
            self.assertEqual([lowest(order)], climbed(len(order), lowest(order)))

    def test_spare(self):
        for many in range(1, 6):
            for drawing in all_drawings(many):
                if not is_short(many, drawing):
                    self.assertEqual(0, check_refused(self, Spare, climbed, many, drawing).place)

    def test_bad_count_and_bad_drawing_ahead_of_spare(self):
        check_refused(self, BadCount, climbed, 6, [(0, 1), (1, 0)])
        check_refused(self, BadDrawing, climbed, 3, [(1, 0), (0, 1)])
        check_refused(self, BadDrawing, climbed, 3, [(0, 1), (1, 0), (1, 1)])
        check_refused(self, Spare, climbed, 3, [(0, 1), (1, 0)])


class Own(unittest.TestCase):

    def test_of_drawings(self):
        for many, drawing in ((1, []), (3, []), (3, [(1, 0)]), (4, [(0, 0), (2, 0)]), (5, [(1, 0), (1, 1), (2, 0)])):
            for function in OF_A_DRAWING:
                check_own(self, function, many, list(drawing))
        for function in (ends, drawing_word, twice, ladders, terms_of):
            check_own(self, function, 4, [(0, 1), (1, 0), (2, 0)])

    def test_of_orders(self):
        for order in ((0,), (0, 1, 2), (0, 2, 1), (0, 4, 3, 2, 1), (4, 3, 2, 1, 0)):
            check_own(self, lowest, order)
            check_own(self, drawings, order)


if __name__ == "__main__":
    unittest.main()
