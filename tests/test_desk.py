import itertools
import unittest

from crossbends.below import above_at
from crossbends.desk import Desk
from crossbends.drawings import drawings
from crossbends.errors import BadCount, BadName, NoLine, NoName, NoText, TooMany
from crossbends.orders import back, joined
from crossbends.products import product_sums
from crossbends.sums import order_sum
from crossbends.texts import sum_text
from crossbends.words import least_word
from tests.helper import all_orders, by_hand, check_refused, pairs_wrong, small_words

OF_ONE = ("length", "code", "falls", "word", "sum", "drawings")
OF_TWO = ("below", "times")
GIVEN = ("order {} = 012", "order {} = by 010", "join {} = a b", "back {} = a")
NAMES = ("a", "z", "by", "order", "things", "none", "abcdefgh", "zzzzzzzz")
NO_NAMES = ("A", "Ab", "aB", "a1", "1", "0", "-", "=", "a_", "a-b", "a=", "abcdefghi", "abcdefghij", "a" * 9, "a" * 200,
            "~", "ABCDEFGH", "abcdefgH", ".", "!", "{", "`", "a,b")


def text_of(order):
    return "".join(map(str, order))


def desk_with(many, **orders):
    """A desk of so many things with these names."""
    desk = Desk()
    desk.tell(f"things {many}")
    for name, order in orders.items():
        desk.tell(f"order {name} = {text_of(order)}")
    return desk


class DeskTest(unittest.TestCase):

    def check_lines(self, desk, lines):
        for line, answer in lines:
            with self.subTest(line):
                told = desk.tell(line)
                self.assertIs(str, type(told))
                self.assertEqual(answer, told)

    def check_no(self, desk, refusal, line):
        with self.subTest(line):
            check_refused(self, refusal, desk.tell, line)


class Answers(DeskTest):

    def test_a_conversation(self):
        self.check_lines(Desk(), [
            ("order a = 201", "order a = 201"),
            ("order b = by 010", "order b = 210"),
            ("order plain = by -", "order plain = 012"),
            ("join c = a a", "order c = 120"),
            ("join d = a b", "order d = 102"),
            ("back e = a", "order e = 120"),
            ("below plain a", "below -"),
            ("below plain plain", "below -"),
            ("below a a", "below 0,1"),
            ("below b b", "below 0,1,2"),
            ("below a b", "below 1,2"),
            ("below b a", "above 2 1"),
            ("below a c", "above 1 2"),
            ("length a", "2"),
            ("length plain", "0"),
            ("code a", "2 0 0"),
            ("code b", "2 1 0"),
            ("code plain", "0 0 0"),
            ("falls a", "0"),
            ("falls b", "0 1"),
            ("falls plain", "none"),
            ("word a", "10"),
            ("word b", "010"),
            ("word plain", "-"),
            ("sum a", "x0^2"),
            ("sum plain", "1"),
            ("order f = 021", "order f = 021"),
            ("sum f", "x0 + x1"),
            ("drawings f", "2"),
            ("drawings plain", "1"),
            ("times f f", "1 03124; 1 12034"),
            ("times a f", "1 21034; 1 30124"),
            ("times plain plain", "1 01234"),
        ])

    def test_things(self):
        desk = Desk()
        for figure in "1234554321":
            self.check_lines(desk, [(f"things {figure}", f"things {figure}")])
            text = "01234"[:int(figure)]
            self.check_lines(desk, [(f"order a = {text}", f"order a = {text}")])

    def test_one_thing(self):
        self.check_lines(Desk(), [
            ("things 1", "things 1"), ("order a = 0", "order a = 0"), ("order b = by -", "order b = 0"),
            ("join c = a b", "order c = 0"), ("back c = c", "order c = 0"), ("below a b", "below -"),
            ("length a", "0"), ("code a", "0"), ("falls a", "none"), ("word a", "-"), ("sum a", "1"),
            ("drawings a", "1"), ("times a b", "1 0"),
        ])

    def test_five_things(self):
        self.check_lines(Desk(), [
            ("things 5", "things 5"), ("order a = 43210", "order a = 43210"), ("order b = 04321", "order b = 04321"),
            ("length a", "10"), ("code a", "4 3 2 1 0"), ("falls a", "0 1 2 3"), ("word a", "0102103210"),
            ("sum a", "x0^4x1^3x2^2x3"), ("drawings b", "14"), ("order c = by 3", "order c = 01243"),
            ("sum c", "x0 + x1 + x2 + x3"), ("below a b", "above 1 1"), ("below c c", "below 0"),
            ("order w = by 010101010101010101010101010101", "order w = 01234"),
        ])

    def test_a_new_desk_has_three_things_and_no_names(self):
        desk = Desk()
        self.check_lines(desk, [("order a = 210", "order a = 210")])
        for text in ("0", "10", "0123", "01234"):
            self.check_no(Desk(), NoText, f"order a = {text}")
        self.check_no(Desk(), NoText, "order a = by 2")
        for name in ("a", "b", "order", "x"):
            self.check_no(Desk(), NoName, f"length {name}")

    def test_of_each_order(self):
        for order in all_orders():
            many = len(order)
            code = [sum(b < a for b in order[i:]) for i, a in enumerate(order)]
            falls = [k for k in range(many - 1) if order[k] > order[k + 1]]
            self.check_lines(desk_with(many, a=order), [
                ("length a", str(pairs_wrong(order))),
                ("code a", " ".join(map(str, code))),
                ("falls a", " ".join(map(str, falls)) or "none"),
                ("word a", "".join(map(str, least_word(order))) or "-"),
                ("sum a", sum_text(order_sum(order))),
                ("drawings a", str(len(drawings(order)))),
                ("back b = a", f"order b = {text_of(back(order))}"),
                ("length b", str(pairs_wrong(order))),
            ])

    def test_of_each_pair(self):
        for many in range(1, 5):
            for one, other in itertools.product(all_orders(many, many), repeat=2):
                desk = desk_with(many, one=one, other=other)
                self.check_lines(desk, [("join both = one other", f"order both = {text_of(joined(one, other))}")])
                self.check_below(desk, one, other)
                if many < 4:
                    pairs = [f"{number} {text_of(order)}" for order, number in product_sums(one, other)]
                    self.check_lines(desk, [("times one other", "; ".join(pairs))])

    def test_pairs_of_five_things(self):
        orders = all_orders(5, 5)
        for one, other in itertools.product(orders[::13], orders[::7]):
            self.check_below(desk_with(5, one=one, other=other), one, other)

    def check_below(self, desk, one, other):
        told = desk.tell("below one other")
        at = above_at(one, other)
        if at is not None:
            self.assertEqual(f"above {at[0]} {at[1]}", told)
            return
        head, text = told.split(" ")
        self.assertEqual("below", head)
        self.assertEqual(text == "-", pairs_wrong(one) == 0)
        places = [] if text == "-" else [int(place) for place in text.split(",")]
        self.assertEqual(sorted(set(places)), places)
        self.assertEqual(text, ",".join(map(str, places)) or "-")
        word = least_word(other)
        entries = [word[place] for place in places]
        self.assertEqual(pairs_wrong(one), len(entries))
        self.assertEqual(one, by_hand(len(one), entries))

    def test_orders_by_words(self):
        for many in range(1, 6):
            desk = desk_with(many)
            for word in small_words(many, 4 if many < 5 else 3):
                text = "".join(map(str, word)) or "-"
                order = text_of(by_hand(many, word))
                self.check_lines(desk, [(f"order w = by {text}", f"order w = {order}")])


class Names(DeskTest):

    def test_good_names(self):
        desk = Desk()
        self.check_lines(desk, [("order a = 201", "order a = 201"), ("order b = 021", "order b = 021")])
        for name in NAMES[1:]:
            self.check_lines(desk, [
                (f"order {name} = 012", f"order {name} = 012"), (f"length {name}", "0"),
                (f"order {name} = by 010", f"order {name} = 210"), (f"length {name}", "3"),
                (f"join {name} = a b", f"order {name} = 210"), (f"length {name}", "3"),
                (f"back {name} = a", f"order {name} = 120"), (f"length {name}", "2"),
            ])

    def test_given_anew(self):
        self.check_lines(Desk(), [
            ("order a = 201", "order a = 201"), ("order b = 021", "order b = 021"), ("order a = 102", "order a = 102"),
            ("length a", "1"), ("length b", "1"), ("join a = a b", "order a = 120"), ("join a = a a", "order a = 201"),
            ("back a = a", "order a = 120"), ("word a", "01"), ("word b", "1"),
        ])

    def test_a_name_keeps_what_it_stood_for(self):
        self.check_lines(Desk(), [
            ("order a = 201", "order a = 201"), ("back b = a", "order b = 120"), ("order a = 012", "order a = 012"),
            ("code b", "1 1 0"), ("code a", "0 0 0"),
        ])

    def test_things_forgets_all_names(self):
        for figure in "12345":
            desk = desk_with(3, a=(2, 0, 1), b=(0, 1, 2))
            desk.tell(f"things {figure}")
            for name in ("a", "b"):
                self.check_no(desk, NoName, f"length {name}")
            for text in ("0", "01", "012", "0123", "01234"):
                if len(text) == int(figure):
                    self.check_lines(desk, [(f"order c = {text}", f"order c = {text}")])
                else:
                    self.check_no(desk, NoText, f"order d = {text}")
            self.check_no(desk, NoName, "length a")

    def test_two_desks_by_turns(self):
        one, other = Desk(), Desk()
        self.check_lines(one, [("order a = 201", "order a = 201")])
        self.check_no(other, NoName, "length a")
        self.check_lines(other, [("things 4", "things 4"), ("order a = 0132", "order a = 0132")])
        self.check_lines(one, [("length a", "2"), ("order b = 012", "order b = 012")])
        self.check_no(other, NoName, "length b")
        self.check_lines(other, [("length a", "1"), ("things 3", "things 3")])
        self.check_lines(one, [("code a", "2 0 0"), ("below b a", "below -")])
        self.check_no(other, NoName, "length a")


class Refused(DeskTest):

    def desk(self):
        return desk_with(3, a=(2, 0, 1), b=(0, 2, 1))

    def check_unchanged(self, desk):
        self.check_lines(desk, [
            ("code a", "2 0 0"), ("code b", "0 1 0"), ("join c = a b", "order c = 210"), ("length c", "3"),
            ("order c = by 0", "order c = 102"),
        ])

    def test_no_line(self):
        lines = [
            "", " ", "  ", "a", "=", "what a", "a = 012", "Order a = 012", "ORDER a = 012", "orders a = 012", "length",
            "lengths a", "Length a", "length a b", "length  a", " length a", "length a ", "length a  ", "things",
            "things 3 3", "things  3", " things 3", "things 3 ", "Things 3", "thing 3", "3", "things = 3", "order",
            "order a", "order a =", "order = 012", "order a 012", "order a=012", "order a= 012", "order a =012",
            "order a == 012", "order a = 012 ", "order  a = 012", "order a  = 012", "order a =  012", "order  = 012",
            "order a = 0 1 2", "order a = 012 012", "order a = by 0 1", "order a = by  0", "order a = By 0",
            "order a = by 0 ", "order a = 012 by", "order a b = 012", "order a = = 012", "order a is 012",
            "join c = a", "join c = a b a", "join c a b", "join c = ", "join c =", "join = a b", "join c a = b",
            "join c = a  b", "join", "back c =", "back c = a b", "back c a", "back = a", "back", "back c = a ",
            "below", "below a", "below a b a", "below  a b", "below a  b", "below a b ", "code", "code a b", "falls",
            "falls a b", "word", "word a b", "sum", "sum a b", "drawings", "drawings a b", "drawing a", "times",
            "times a", "times a b a", "times a b ", "by 010", "order by 010", "-", "none",
            " " * 300, "a" * 300, "a " * 150, ("a " * 150)[:299],
        ]
        desk = self.desk()
        for line in lines:
            self.check_no(desk, NoLine, line)
        self.check_unchanged(desk)

    def test_a_word_too_many_or_too_few(self):
        desk = self.desk()
        good = ["things 3", "order c = 012", "order c = by 01", "join c = a b", "back c = a", "below a b", "times a b"]
        for line in good + [f"{ask} a" for ask in OF_ONE]:
            words = line.split(" ")
            for more in ("a", "=", "by", "0", "3"):
                self.check_no(desk, NoLine, line + " " + more)
            if line != "order c = by 01":
                self.check_no(desk, NoLine, " ".join(words[:-1]))
            for place in range(len(words)):
                blank = words[:place] + [""] + words[place:]
                self.check_no(desk, NoLine, " ".join(blank))
            self.check_no(desk, NoLine, line + " ")
            if "=" in words:
                self.check_no(desk, NoLine, " ".join(word for word in words if word != "="))
                self.check_no(desk, NoLine, line.replace("=", "by"))
            self.check_no(desk, NoLine, line[0].upper() + line[1:])
        self.check_unchanged(desk)

    def test_bad_count(self):
        desk = self.desk()
        for word in ("0", "6", "7", "10", "33", "03", "3.", "+3", "-3", "-", "three", "True", "None", "=", "a", "by",
                     "3,", "1" * 40, "9" * 290, "(3)"):
            self.check_no(desk, BadCount, f"things {word}")
            self.check_no(desk, NoLine, f"things {word} 3")
        self.check_unchanged(desk)

    def test_no_text(self):
        desk = self.desk()
        for text in ("01", "0123", "013", "002", "by", "-", "a", "b", "0", "1", "210.", "=", "0,1,2", "01-", "(0,1,2)",
                     "Bb", "012012", "0" * 280, "~"):
            for name in ("a", "c"):
                self.check_no(desk, NoText, f"order {name} = {text}")
        for text in ("2", "3", "02", "012", "--", "-0", "0-", "by", "a", "=", "0,1", "0" * 31, "01" * 130, "none"):
            for name in ("a", "c"):
                self.check_no(desk, NoText, f"order {name} = by {text}")
        self.check_unchanged(desk)

    def test_texts_of_other_many_things(self):
        for many in range(1, 6):
            desk = desk_with(many)
            for order in all_orders():
                if len(order) != many:
                    self.check_no(desk, NoText, f"order a = {text_of(order)}")
            for figure in range(many - 1, 10):
                self.check_no(desk, NoText, f"order a = by {figure}")
            self.check_no(desk, NoName, "length a")

    def test_the_word_by_alone_is_taken_for_an_order_s_text(self):
        desk = self.desk()
        self.check_no(desk, NoText, "order a = by")
        self.check_no(desk, NoText, "order by = by")
        self.check_no(desk, BadName, "order B = by")
        self.check_lines(desk, [("order by = by 0", "order by = 102"), ("length by", "1")])

    def test_bad_name(self):
        desk = self.desk()
        for name in NO_NAMES:
            for line in GIVEN:
                self.check_no(desk, BadName, line.format(name))
        self.check_unchanged(desk)

    def test_bad_name_ahead_of_no_text_and_no_name(self):
        desk = self.desk()
        for name in NO_NAMES:
            for line in ("order {} = 0123", "order {} = by 9", "order {} = by", "join {} = x y", "join {} = a y",
                         "join {} = X a", "back {} = x", "back {} = X"):
                self.check_no(desk, BadName, line.format(name))
        self.check_unchanged(desk)

    def test_no_line_ahead_of_all_else(self):
        desk = self.desk()
        for line in ("order A = 0 1", "order A 0123", "order A =  0123", "order A = by 9 ", "join A = x y z",
                     "join A = x", "back A = x y", "back A x", "below x y z", "below x", "length X ", " length x",
                     "times x y z",
                     "things 6 6", "things  6", "things 9 "):
            self.check_no(desk, NoLine, line)
        self.check_unchanged(desk)

    def test_no_name(self):
        desk = self.desk()
        for name in NO_NAMES + ("c", "ab", "none", "by", "order", "things", "abcdefgh"):
            for ask in OF_ONE:
                self.check_no(desk, NoName, f"{ask} {name}")
            for ask in OF_TWO:
                for line in (f"{ask} a {name}", f"{ask} {name} a", f"{ask} {name} {name}"):
                    self.check_no(desk, NoName, line)
            for line in (f"join d = a {name}", f"join d = {name} a", f"join a = {name} b", f"join d = {name} {name}",
                         f"back d = {name}", f"back a = {name}", "back d = d", "join d = d d"):
                self.check_no(desk, NoName, line)
            self.check_no(desk, NoName, "length d")
        self.check_unchanged(desk)

    def test_too_many(self):
        for many in (4, 5):
            plain = tuple(range(many))
            desk = desk_with(many, a=plain, b=plain[::-1])
            for line in ("times a a", "times a b", "times b a", "times b b"):
                self.check_no(desk, TooMany, line)
            for line in ("times a x", "times x b", "times X Y"):
                self.check_no(desk, NoName, line)
            self.check_lines(desk, [("length a", "0"), ("length b", str(many * (many - 1) // 2))])


if __name__ == "__main__":
    unittest.main()
