import unittest

from crossbends import errors

PLAIN = [
    "BadCount", "BadPowers", "TooGreat", "BadOrder", "OtherCount", "BadCode", "BadWord", "TooMany", "OtherOrder",
    "BadPlace", "BadDrawing", "BadShifts", "NoText", "NoLine", "BadName", "NoName",
]


class Errors(unittest.TestCase):

    def test_order_error_straight_beneath_value_error(self):
        self.assertEqual((ValueError,), errors.OrderError.__bases__)

    def test_each_straight_beneath_order_error(self):
        for name in PLAIN + ["Spare", "OutOfStair"]:
            with self.subTest(name):
                self.assertEqual((errors.OrderError,), getattr(errors, name).__bases__)

    def test_no_other_classes(self):
        classes = [name for name, thing in vars(errors).items() if isinstance(thing, type)]
        self.assertEqual(sorted(PLAIN + ["OrderError", "Spare", "OutOfStair"]), sorted(classes))

    def test_plain_ones_have_no_fields(self):
        for name in PLAIN:
            with self.subTest(name):
                self.assertEqual({}, vars(getattr(errors, name)("why")))

    def test_fields_are_set_on_each_object(self):
        spare = errors.Spare(1)
        self.assertEqual({"place": 1}, vars(spare))
        self.assertEqual(0, errors.Spare(0).place)
        self.assertEqual(1, spare.place)
        out = errors.OutOfStair((3, 0))
        self.assertEqual({"powers": (3, 0)}, vars(out))

    def test_caught_by_name(self):
        for name in PLAIN + ["Spare", "OutOfStair"]:
            with self.assertRaises(errors.OrderError):
                raise getattr(errors, name)("why")


if __name__ == "__main__":
    unittest.main()
