"""The names and arguments that the document's interface lists."""

import importlib
import inspect
import unittest

from crossbends.desk import Desk

INTERFACE = {
    "polys": [
        "made(many, terms)", "plus(one, other)", "less(one, other)", "times(one, other)", "exchanged(some, k)",
        "at(some, point)",
    ],
    "orders": [
        "is_order(thing)", "joined(one, other)", "back(order)", "wrong_pairs(order)", "falls(order)", "code(order)",
        "order_of(numbers)", "widened(order, many)",
    ],
    "words": [
        "word_order(many, word)", "spare(many, word)", "least_word(order)", "short_words(order)", "moves(many, word)",
        "led(many, one, other)",
    ],
    "below": [
        "ahead(order, place, height)", "above_at(one, other)", "kept_in(many, word, order)", "steps_up(order)",
        "climb(one, other)",
    ],
    "differences": [
        "differed(many, some, k)", "raised(many, some, k)", "differed_by(many, some, word)",
        "raised_by(many, some, word)",
    ],
    "sums": ["order_sum(order)", "out_of_stair(many, some)", "by_orders(many, some)"],
    "drawings": [
        "ends(many, drawing)", "drawing_word(many, drawing)", "twice(many, drawing)", "lowest(order)",
        "ladders(many, drawing)", "drawings(order)", "climbed(many, drawing)", "terms_of(many, drawing)",
    ],
    "products": ["product_sums(one, other)", "by_exchange(order, k)", "key_sum(many, powers)", "one_fall(order)"],
    "texts": [
        "order_text(order)", "read_order(text)", "word_text(many, word)", "read_word(many, text)",
        "drawing_text(many, drawing)", "read_drawing(many, text)", "sum_text(some)",
    ],
    "shifts": ["shifted_sum(order, shifts)", "shifted_worth(order, shifts, other)", "by_shifts(many, some, shifts)"],
}


class Interface(unittest.TestCase):

    def test_functions_and_their_arguments(self):
        for file, functions in INTERFACE.items():
            module = importlib.import_module(f"crossbends.{file}")
            for told in functions:
                with self.subTest(told):
                    function = getattr(module, told.partition("(")[0])
                    self.assertEqual(told, function.__name__ + str(inspect.signature(function)))
                    self.assertEqual(module.__name__, function.__module__)

    def test_the_desk(self):
        self.assertEqual("crossbends.desk", Desk.__module__)
        self.assertEqual("()", str(inspect.signature(Desk)))
        self.assertEqual("(self, line)", str(inspect.signature(vars(Desk)["tell"])))


if __name__ == "__main__":
    unittest.main()
