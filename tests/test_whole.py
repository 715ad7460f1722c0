"""What the document promises over the whole program, for every function of the interface."""

import copy
import importlib
import itertools
import time
import unittest

from crossbends.desk import Desk
from crossbends.errors import (BadCode, BadCount, BadDrawing, BadOrder, BadPlace, BadPowers, BadShifts, BadWord, NoText,
                               OrderError, OtherCount, OtherOrder, OutOfStair, Spare, TooGreat, TooMany)
from tests.helper import FORTY, FORTY_BELOW, all_lists, check_own, check_refused, full, naive_at, nested, spoil
from tests.test_interface import INTERFACE

SOME = [((2, 0, 0), 3), ((1, 1, 0), -1), ((0, 1, 0), FORTY)]
MORE = [((2, 1, 0), 1), ((2, 0, 0), -3)]
GREAT = [((20, 0, 0), 1)]
OUT = [((2, 0, 0), 1), ((0, 0, 1), 1)]
TURNED = (2, 1, 0)

# What may be asked of each function: good arguments of several kinds.
ASKED = {
    "made": [(3, [((0, 1, 0), 2), ((1, 0, 0), 1), ((0, 1, 0), 5), ((3, 0, 0), 0)]), (3, SOME), (1, [])],
    "plus": [(SOME, MORE), (SOME, []), ([], SOME), (SOME, SOME)],
    "less": [(SOME, MORE), (SOME, []), ([], SOME), (SOME, SOME)],
    "times": [(SOME, MORE), (SOME, []), ([], SOME), (SOME, [((0, 0, 0), 1)]), (SOME, SOME)],
    "exchanged": [(SOME, 0), (SOME, 1), ([((1, 1), 4)], 0), ([], 0)],
    "at": [(SOME, [1, FORTY, -3]), ([], [1]), ([((0,), 5)], [2])],
    "is_order": [((1, 0),), ([1, 0],), (None,), ([[1], (0, [2])],), ("10",), (nested(10, 0),)],
    "joined": [((2, 0, 1), (0, 2, 1)), ((0,), (0,))],
    "back": [((2, 0, 1),), ((0,),)],
    "wrong_pairs": [((2, 0, 1),), ((0,),), ((4, 3, 2, 1, 0),)],
    "falls": [((2, 0, 1),), ((0,),), ((4, 3, 2, 1, 0),)],
    "code": [((2, 0, 1),), ((0,),)],
    "order_of": [((2, 0, 0),), ((0,),)],
    "widened": [((2, 0, 1), 5), ((2, 0, 1), 3)],
    "word_order": [(3, [0, 1, 0]), (1, []), (5, [3] * 30)],
    "spare": [(3, [0, 1, 0]), (3, [0, 0]), (5, [3] * 30)],
    "least_word": [(TURNED,), ((0,),)],
    "short_words": [(TURNED,), ((0,),), ((0, 1, 2),), ((1, 0, 3, 2),)],
    "moves": [(5, [0, 1, 0, 2, 3]), (3, []), (3, [0]), (4, [0, 2])],
    "led": [(3, [0, 1, 0], [1, 0, 1]), (3, [0, 1], [0, 1]), (3, [], []), (5, [0, 2, 3, 2], [3, 2, 0, 3])],
    "ahead": [((2, 0, 1), 1, 2), ((0,), 1, 1)],
    "above_at": [((2, 0, 1), (0, 2, 1)), ((0, 1, 2), TURNED)],
    "kept_in": [(3, [0, 1, 0], (0, 2, 1)), (3, [0], (0, 2, 1)), (3, [0, 1, 0], TURNED), (3, [], (0, 1, 2))],
    "steps_up": [((0, 1, 2),), (TURNED,), ((0,),)],
    "climb": [((0, 1, 2), TURNED), (TURNED, (0, 1, 2)), (TURNED, TURNED)],
    "differed": [(3, SOME, 0), (3, SOME, 1), (3, [], 0)],
    "raised": [(3, SOME, 0), (3, SOME, 1), (3, [], 0), (2, [((1, 1), 2)], 0)],
    "differed_by": [(3, SOME, [0, 1]), (3, SOME, []), (3, [], [0]), (3, SOME, [0, 0])],
    "raised_by": [(3, SOME, [0, 1]), (3, SOME, []), (3, [], [0]), (3, [((1, 1, 1), 2)], [0, 1])],
    "order_sum": [((0, 2, 1),), ((0,),), (TURNED,)],
    "out_of_stair": [(3, SOME), (3, OUT), (3, [])],
    "by_orders": [(3, SOME), (3, MORE), (3, [])],
    "ends": [(3, [(0, 0), (1, 0)]), (1, [])],
    "drawing_word": [(3, [(0, 0), (0, 1), (1, 0)]), (1, [])],
    "twice": [(3, [(0, 1), (1, 0)]), (3, [(0, 0)]), (1, [])],
    "lowest": [((2, 0, 3, 1),), ((0,),)],
    "ladders": [(4, [(1, 0), (2, 0)]), (4, [(0, 0), (2, 0)]), (3, [])],
    "drawings": [((0, 3, 2, 1),), ((0,),), (TURNED,)],
    "climbed": [(4, [(0, 0), (0, 2)]), (4, [(2, 0)]), (3, [])],
    "terms_of": [(4, [(0, 0), (0, 2)]), (1, [])],
    "product_sums": [((0, 2, 1), (0, 2, 1)), ((0,), (0,))],
    "by_exchange": [((0, 2, 1), 1), ((0,), 0)],
    "key_sum": [(3, (0, 1, 2)), (3, (2, 1, 0))],
    "one_fall": [((0, 2, 1),), (TURNED,), ((0,),)],
    "order_text": [((2, 0, 1),)],
    "read_order": [("201",)],
    "word_text": [(3, [0, 1, 0]), (3, [])],
    "read_word": [(3, "010"), (3, "-")],
    "drawing_text": [(3, [(0, 0), (1, 0)]), (3, [])],
    "read_drawing": [(3, "00 10"), (3, "-")],
    "sum_text": [(SOME,), ([],)],
    "shifted_sum": [((0, 2, 1), [5, 7, FORTY]), ((0,), [1])],
    "shifted_worth": [((0, 2, 1), [5, 7, FORTY], TURNED), ((0,), [1], (0,))],
    "by_shifts": [(3, SOME, [5, 7, FORTY]), (3, [], [0, 0, 0]), (3, [((0, 0, 0), 2)], [1, 2, 3])],
}

# The places of the arguments that may be anything, with their refusals, in the order in which these are told.
REFUSALS = {
    "made": [(0, BadCount)], "joined": [(0, BadOrder), (1, BadOrder)], "back": [(0, BadOrder)],
    "wrong_pairs": [(0, BadOrder)], "falls": [(0, BadOrder)], "code": [(0, BadOrder)], "order_of": [(0, BadCode)],
    "widened": [(0, BadOrder), (1, BadCount)], "word_order": [(0, BadCount), (1, BadWord)],
    "spare": [(0, BadCount), (1, BadWord)], "least_word": [(0, BadOrder)], "short_words": [(0, BadOrder)],
    "moves": [(0, BadCount), (1, BadWord)], "led": [(0, BadCount), (1, BadWord), (2, BadWord)],
    "ahead": [(0, BadOrder), (1, BadPlace), (2, BadPlace)], "above_at": [(0, BadOrder), (1, BadOrder)],
    "kept_in": [(2, BadOrder), (0, BadCount), (1, BadWord)], "steps_up": [(0, BadOrder)],
    "climb": [(0, BadOrder), (1, BadOrder)], "differed": [(0, BadCount), (2, BadPlace)],
    "raised": [(0, BadCount), (2, BadPlace)], "differed_by": [(0, BadCount), (2, BadWord)],
    "raised_by": [(0, BadCount), (2, BadWord)], "order_sum": [(0, BadOrder)], "out_of_stair": [(0, BadCount)],
    "by_orders": [(0, BadCount)], "ends": [(0, BadCount), (1, BadDrawing)],
    "drawing_word": [(0, BadCount), (1, BadDrawing)], "twice": [(0, BadCount), (1, BadDrawing)],
    "lowest": [(0, BadOrder)], "ladders": [(0, BadCount), (1, BadDrawing)], "drawings": [(0, BadOrder)],
    "climbed": [(0, BadCount), (1, BadDrawing)], "terms_of": [(0, BadCount), (1, BadDrawing)],
    "product_sums": [(0, BadOrder), (1, BadOrder)], "by_exchange": [(0, BadOrder), (1, BadPlace)],
    "key_sum": [(0, BadCount), (1, BadPowers)], "one_fall": [(0, BadOrder)], "order_text": [(0, BadOrder)],
    "word_text": [(0, BadCount), (1, BadWord)], "read_word": [(0, BadCount)],
    "drawing_text": [(0, BadCount), (1, BadDrawing)], "read_drawing": [(0, BadCount)],
    "shifted_sum": [(0, BadOrder), (1, BadShifts)], "shifted_worth": [(0, BadOrder), (2, BadOrder), (1, BadShifts)],
    "by_shifts": [(0, BadCount), (2, BadShifts)],
}

# What is neither a count nor an order, a word, a drawing, powers, shifts, a code or a place of three things.
ANYTHING = [
    None, True, False, -1, 7, FORTY, FORTY_BELOW, "", "0", "012", "abc" * 100, (), (None,), [None], (True,), [True],
    [False, True], (0, True, 2), (False, 1, 2), [0, True, 2], ("0", "1", "2"), [0, 1, "2"], (0, 1, [2]), [0, 1, (2,)],
    [[0, 1, 2]], ((0, 1, 2),), [(0, False)], [(0, 0), [1, 0]], (0, -1, 1), (0, 0, FORTY), [0, 1, None], [None] * 400,
    ((),) * 400, nested(10, 0), nested(10, None), nested(10, "x"), [nested(9, 0)], (0, 1, nested(9, 2)),
]

# Where a point names a further refusal, arguments for which it is due, and no other one ahead of it.
LATER = [
    ("made", BadPowers, (3, [((1, 0), 1)])), ("times", TooGreat, (GREAT, SOME)), ("joined", OtherCount, ((0,), (0, 1))),
    ("short_words", TooMany, ((4, 3, 2, 1, 0),)), ("led", Spare, (3, [0], [0, 0])), ("led", OtherOrder, (3, [0], [1])),
    ("above_at", OtherCount, ((0,), (0, 1))), ("kept_in", Spare, (3, [0, 0], (0, 1))),
    ("kept_in", OtherCount, (3, [0], (0, 1))), ("climb", OtherCount, ((0,), (0, 1))),
    ("raised", TooGreat, (3, GREAT, 0)), ("raised_by", TooGreat, (3, GREAT, [0])), ("by_orders", OutOfStair, (3, OUT)),
    ("climbed", Spare, (3, [(0, 1), (1, 0)])), ("product_sums", OtherCount, ((0,), (0, 1))),
    ("product_sums", TooMany, ((0, 1, 2, 3), (0, 1, 2, 3))), ("by_exchange", TooMany, ((0, 1, 2, 3, 4), 9)),
    ("read_order", NoText, ("021 ",)), ("read_word", NoText, (3, "")), ("read_drawing", NoText, (3, "11")),
    ("shifted_worth", OtherCount, ((0,), [0], (0, 1))), ("by_shifts", OutOfStair, (3, OUT, [1, 2, 3])),
]

# How many of a function's refusals of anything stand ahead of such a further one, where not all of them do.
AHEAD = {("by_exchange", TooMany): 1, ("shifted_worth", OtherCount): 2}


def functions():
    """All functions of the interface by their names."""
    found = {}
    for file, heads in INTERFACE.items():
        module = importlib.import_module(f"crossbends.{file}")
        for head in heads:
            name = head.partition("(")[0]
            found[name] = getattr(module, name)
    return found


FUNCTIONS = functions()


def samples():
    """Each function with each of its good arguments, as new lists."""
    for name, asked in ASKED.items():
        for arguments in asked:
            yield FUNCTIONS[name], copy.deepcopy(arguments)


class Own(unittest.TestCase):

    def test_every_function_is_asked(self):
        self.assertEqual(sorted(FUNCTIONS), sorted(ASKED))

    def test_what_is_handed_in_stays_and_told_lists_are_the_asker_s_own(self):
        for function, arguments in samples():
            with self.subTest(function=function, arguments=arguments):
                check_own(self, function, *arguments)

    def test_one_list_handed_in_at_two_places(self):
        for name in ("plus", "less", "times"):
            some = copy.deepcopy(SOME)
            told = FUNCTIONS[name](some, some)
            self.assertEqual(SOME, some)
            self.assertEqual(FUNCTIONS[name](SOME, copy.deepcopy(SOME)), told)
        word = [0, 1]
        told = FUNCTIONS["led"](3, word, word)
        spoil(told)
        self.assertEqual([0, 1], word)

    def test_answers_that_are_changed_change_no_other_answer(self):
        kept = [(function, arguments, function(*arguments)) for function, arguments in samples()]
        whole = copy.deepcopy(kept)
        for function, arguments in samples():
            spoil(function(*arguments))
            spoil(arguments)
        self.assertEqual([told for function, arguments, told in whole], [told for function, arguments, told in kept])
        for function, arguments, told in kept:
            self.assertEqual(told, function(*arguments))

    def test_no_list_is_told_twice(self):
        for function, arguments in samples():
            one, other = function(*arguments), function(*arguments)
            self.assertFalse({id(entry) for entry in all_lists(one)} & {id(entry) for entry in all_lists(other)})

    def test_whether_something_is_so(self):
        self.assertIs(True, FUNCTIONS["is_order"]((1, 0)))
        for thing in ANYTHING:
            self.assertIs(False, FUNCTIONS["is_order"](thing))

    def test_numbers_are_whole_numbers(self):
        def numbers(thing):
            if isinstance(thing, (list, tuple)):
                return [number for entry in thing for number in numbers(entry)]
            return [] if thing is None or isinstance(thing, str) else [thing]

        for function, arguments in samples():
            if function.__name__ != "is_order":
                for number in numbers(function(*arguments)):
                    self.assertIs(int, type(number), function)


class Refusals(unittest.TestCase):

    def test_of_anything(self):
        for name, places in REFUSALS.items():
            for place, refusal in places:
                for thing in ANYTHING:
                    arguments = list(copy.deepcopy(ASKED[name][0]))
                    arguments[place] = thing
                    with self.subTest(name=name, arguments=arguments):
                        check_refused(self, refusal, FUNCTIONS[name], *arguments)

    def test_the_one_named_first(self):
        for name, places in REFUSALS.items():
            for count in range(2, len(places) + 1):
                for wrong in itertools.combinations(places, count):
                    for turn in range(len(ANYTHING)):
                        arguments = list(copy.deepcopy(ASKED[name][0]))
                        for step, (place, refusal) in enumerate(wrong):
                            arguments[place] = ANYTHING[(turn * (step + 1) + step) % len(ANYTHING)]
                        with self.subTest(name=name, arguments=arguments):
                            check_refused(self, wrong[0][1], FUNCTIONS[name], *arguments)

    def test_those_named_later(self):
        for name, refusal, arguments in LATER:
            with self.subTest(name=name, arguments=arguments):
                told = check_refused(self, refusal, FUNCTIONS[name], *copy.deepcopy(arguments))
                self.assertIsInstance(told, OrderError)
                self.assertIsInstance(told, ValueError)

    def test_those_named_first_ahead_of_those_named_later(self):
        for name, refusal, arguments in LATER:
            places = REFUSALS.get(name, [])
            ahead = AHEAD.get((name, refusal), len(places))
            for turn, (place, other) in enumerate(places):
                for thing in ANYTHING:
                    wrong = list(copy.deepcopy(arguments))
                    wrong[place] = thing
                    with self.subTest(name=name, arguments=wrong):
                        check_refused(self, other if turn < ahead else refusal, FUNCTIONS[name], *wrong)

    def test_a_refusal_changes_nothing(self):
        kept = [(function, arguments, function(*arguments)) for function, arguments in samples()]
        for name, refusal, arguments in LATER:
            with self.assertRaises(refusal):
                FUNCTIONS[name](*arguments)
        for function, arguments, told in kept:
            self.assertEqual(told, function(*arguments))


class HandedInAgain(unittest.TestCase):

    def test_numbers_of_very_many_figures(self):
        x0 = [((20, 0, 0), 1)]
        great = FUNCTIONS["at"](x0, [FORTY, 1, 1])
        greater = FUNCTIONS["at"](x0, [great, 1, 1])
        self.assertEqual(FORTY ** 400, greater)
        some = FUNCTIONS["made"](3, [((2, 1, 0), greater), ((0, 1, 0), -greater), ((0, 0, 0), great)])
        twice = FUNCTIONS["times"](some, [((0, 0, 0), 2)])
        self.assertEqual([], FUNCTIONS["less"](FUNCTIONS["plus"](some, some), twice))
        pairs = FUNCTIONS["by_orders"](3, some)
        shifted = FUNCTIONS["by_shifts"](3, some, [greater, great, -greater])
        point = [great, -3, greater]
        for found, told in ((pairs, "order_sum"), (shifted, "shifted_sum")):
            shifts = [[greater, great, -greater]] if told == "shifted_sum" else []
            total = sum(number * naive_at(FUNCTIONS[told](order, *shifts), point) for order, number in found)
            self.assertEqual(naive_at(some, point), total)
        self.assertEqual(FUNCTIONS["at"](some, point), naive_at(some, point))
        self.assertTrue(FUNCTIONS["sum_text"](some).endswith(" + " + FUNCTIONS["sum_text"]([((0, 0, 0), great)])))
        worth = FUNCTIONS["shifted_worth"]((1, 0, 2), [-great, greater, 0], (1, 0, 2))
        self.assertEqual(FORTY ** 400 + FORTY ** 20, worth)

    def test_a_number_of_a_million_figures_in_a_small_power(self):
        greatest = FUNCTIONS["times"]([((0,), 10 ** 39)], [((0,), 1)])
        while greatest[0][1].bit_length() < 3000000:
            greatest = FUNCTIONS["times"](greatest, greatest)
        number = greatest[0][1]
        begun = time.monotonic()
        self.assertEqual(number + 1, FUNCTIONS["at"]([((1,), 1), ((0,), 1)], [number]))
        self.assertLess(time.monotonic() - begun, 10)

    def test_the_text_of_a_number_of_a_hundred_thousand_figures(self):
        greatest = [((0,), 10 ** 39)]
        while greatest[0][1].bit_length() < 300000:
            greatest = FUNCTIONS["times"](greatest, greatest)
        begun = time.monotonic()
        text = FUNCTIONS["sum_text"](greatest)
        self.assertLess(time.monotonic() - begun, 10)
        self.assertEqual("1" + "0" * (39 * 4096), text)

    def test_polynomials_of_very_many_terms(self):
        half = full(5, 10, FORTY)
        whole = FUNCTIONS["times"](half, half)
        self.assertGreater(len(whole), 40000)
        self.assertEqual(whole, FUNCTIONS["made"](5, whole))
        self.assertEqual(whole, FUNCTIONS["plus"](whole, []))
        self.assertEqual(whole, FUNCTIONS["exchanged"](FUNCTIONS["exchanged"](whole, 2), 2))
        self.assertEqual([], FUNCTIONS["differed"](5, FUNCTIONS["differed"](5, whole, 1), 1))
        self.assertEqual(naive_at(half, [1, -2, 3, -4, 5]) ** 2, FUNCTIONS["at"](whole, [1, -2, 3, -4, 5]))

    def test_told_words_and_drawings(self):
        for word in FUNCTIONS["short_words"]((1, 4, 3, 0, 2)):
            for other in FUNCTIONS["moves"](5, word):
                text = FUNCTIONS["word_text"](5, other)
                self.assertEqual((1, 4, 3, 0, 2), FUNCTIONS["word_order"](5, FUNCTIONS["read_word"](5, text)))
        for drawing in FUNCTIONS["drawings"]((1, 4, 3, 0, 2)):
            for other in FUNCTIONS["climbed"](5, drawing):
                text = FUNCTIONS["drawing_text"](5, other)
                self.assertEqual((1, 4, 3, 0, 2), FUNCTIONS["ends"](5, FUNCTIONS["read_drawing"](5, text)))


class DeskBesideFunctions(unittest.TestCase):

    def test_told_lists_that_are_changed_change_no_line(self):
        desk = Desk()
        lines = ["order a = 021", "order b = 210", "below a b", "code a", "falls a", "word b", "sum a", "drawings a",
                 "times a b", "times a a"]
        before = [desk.tell(line) for line in lines]
        for function, arguments in samples():
            spoil(function(*arguments))
        self.assertEqual(before, [desk.tell(line) for line in lines])


if __name__ == "__main__":
    unittest.main()
