"""The names and arguments that the document's interface lists."""

import importlib
import inspect
import unittest

INTERFACE = {
    "polys": [
        "made(many, terms)", "plus(one, other)", "less(one, other)", "times(one, other)", "exchanged(some, k)",
        "at(some, point)",
    ],
    "orders": [
        "is_order(thing)", "joined(one, other)", "back(order)", "wrong_pairs(order)", "falls(order)", "code(order)",
        "order_of(numbers)", "widened(order, many)",
    ],
    "words": [
        "word_order(many, word)", "spare(many, word)", "least_word(order)", "short_words(order)", "moves(many, word)",
        "led(many, one, other)",
    ],
}


class Interface(unittest.TestCase):

    def test_functions_and_their_arguments(self):
        for file, functions in INTERFACE.items():
            module = importlib.import_module(f"crossbends.{file}")
            for told in functions:
                with self.subTest(told):
                    function = getattr(module, told.partition("(")[0])
                    self.assertEqual(told, function.__name__ + str(inspect.signature(function)))
                    self.assertEqual(module.__name__, function.__module__)


if __name__ == "__main__":
    unittest.main()
