"""Names, sizes, values and names of expressions: points 6 to 10."""

import random
import unittest

from sameroom.expressions import calls_in, expression_size, is_name, names_in, replaced, value_of
from tests.helping import BINARY, chance_expression, is_plain, slow_value, wide

RESERVED = (
    "and answer answers begin book case cell div do else end fail finger from given helper if line mark mod not or "
    "pick places procedure program set stop to when while"
).split()


class Asked:
    """A helper that keeps what it is asked, and answers with a number made of it."""

    def __init__(self, base):
        self.base = base
        self.asked = []

    def call_value(self, args):
        self.asked.append(args)
        return self.base + sum(args)


def deep_sum(depth):
    expression = "x"
    for _ in range(depth - 1):
        expression = ("+", expression, 1)
    return expression


class NameTest(unittest.TestCase):
    def test_names(self):
        for text in ("a", "z", "x1", "abcdefgh", "a2345678", "z0000000", "ands", "an", "procedur", "marks", "call"):
            self.assertIs(is_name(text), True, text)

    def test_no_names(self):
        for text in ("", " ", "abcdefghi", "a23456789", "1", "1a", "0", "A", "aB", "Ab", "a_b", "_a", "_", "a b",
                     " a", "a ", "a\n", "\na", "a-b", "a.b", "-", "=", "(", "a;", "~", "procedures"):
            self.assertIs(is_name(text), False, text)

    def test_reserved_words_are_no_names(self):
        self.assertEqual(len(RESERVED), 31)
        for text in RESERVED:
            self.assertIs(is_name(text), False, text)
            self.assertIs(is_name(text[:-1]), text[:-1] not in RESERVED and len(text) > 1, text)

    def test_every_sign(self):
        for code in range(32, 127):
            sign = chr(code)
            self.assertIs(is_name(sign), "a" <= sign <= "z", sign)
            self.assertIs(is_name("q" + sign), "a" <= sign <= "z" or "0" <= sign <= "9", sign)


class SizeTest(unittest.TestCase):
    def test_sizes(self):
        for expression, size in (
            (0, (1, 1)), (-999, (1, 1)), ("x", (1, 1)), ("mark", (1, 1)),
            (("not", "x"), (2, 2)), (("not", ("not", 1)), (3, 3)),
            (("-", "a", ("+", "b", -3)), (5, 3)), (("+", ("-", 1, 2), ("*", 3, 4)), (7, 3)),
            (("call", "f", ()), (1, 1)), (("call", "f", (1,)), (2, 2)), (("call", "f", (1, "x", 2)), (4, 2)),
            (("call", "f", (("call", "g", ()), ("not", 1), 3)), (5, 3)),
            (("or", ("call", "f", ()), 1), (3, 2)), (("or", 1, ("call", "f", (1, 2))), (5, 3)),
        ):
            self.assertEqual(expression_size(expression), size, expression)

    def test_large(self):
        self.assertEqual(expression_size(deep_sum(40)), (79, 40))
        self.assertEqual(expression_size(wide(400)), (400, 10))
        self.assertEqual(expression_size(deep_sum(5000)), (9999, 5000))

    def test_kind(self):
        for expression in (1, ("not", 1), ("call", "f", ()), ("+", 1, "x")):
            self.assertTrue(is_plain(expression_size(expression)))


class ValueTest(unittest.TestCase):
    def test_every_operator_at_every_small_pair(self):
        for op in BINARY:
            for left in range(-7, 8):
                for right in range(-7, 8):
                    expression = (op, left, right)
                    value = value_of(expression, {})
                    self.assertIs(type(value), int)
                    self.assertEqual(value, slow_value(expression, {}, {}), expression)

    def test_written_out(self):
        for expression, value in (
            (5, 5), (-999, -999), (("or", 0, 0), 0), (("or", 0, 5), 1), (("or", -2, 0), 1), (("or", 2, 3), 1),
            (("and", 2, 3), 1), (("and", 2, 0), 0), (("and", 0, -1), 0), (("not", 0), 1), (("not", -3), 0),
            (("not", 1), 0), (("=", 2, 2), 1), (("!=", 2, 2), 0), (("<", 1, 2), 1), (("<", 2, 2), 0),
            (("<=", 2, 2), 1), (("<=", 3, 2), 0), ((">", 2, 2), 0), ((">", 3, 2), 1), ((">=", 2, 2), 1),
            ((">=", 1, 2), 0), (("-", 2, 5), -3), (("*", -2, 5), -10),
            (("div", 7, 2), 3), (("div", -7, 2), -4), (("div", 7, -2), -4), (("div", -7, -2), 3),
            (("mod", 7, 2), 1), (("mod", -7, 2), 1), (("mod", 7, -2), -1), (("mod", -7, -2), -1),
            (("div", 7, 0), 0), (("div", -7, 0), 0), (("mod", 7, 0), 7), (("mod", -7, 0), -7), (("mod", 0, 0), 0),
            (("+", ("div", -7, 2), ("mod", 5, 0)), 1),
        ):
            self.assertEqual(value_of(expression, {}), value, expression)
            self.assertIs(type(value_of(expression, {})), int, expression)

    def test_names_have_the_values_of_the_dict(self):
        values = {"x": 5, "y": -2, "mark": 1, "unused": 9}
        self.assertEqual(value_of("x", values), 5)
        self.assertEqual(value_of(("-", ("*", "x", "y"), "mark"), values), -11)
        self.assertEqual(values, {"x": 5, "y": -2, "mark": 1, "unused": 9})

    def test_calls(self):
        one, two = Asked(100), Asked(200)
        helpers = (("x", one), ("f", two))
        expression = ("-", ("call", "f", ("x", 1, ("not", 0))), ("call", "x", ()))
        self.assertEqual(value_of(expression, {"x": 7}, helpers), 209 - 100)
        self.assertEqual((one.asked, two.asked), ([()], [(7, 1, 1)]))

    def test_calls_within_arguments_of_calls(self):
        one, two = Asked(10), Asked(20)
        inner = ("call", "g", (("call", "f", (1, 2)), ("call", "f", (3,))))
        self.assertEqual(value_of(("call", "f", (inner, 0)), {}, (("f", one), ("g", two))), 10 + 20 + 13 + 13)
        self.assertEqual(sorted(one.asked), [(1, 2), (3,), (46, 0)])
        self.assertEqual(two.asked, [(13, 13)])

    def test_by_chance_and_again(self):
        chance = random.Random(8)
        helpers = {"f": Asked(3), "g": Asked(-1), "h": Asked(0)}
        calls = (("f", 0), ("g", 1), ("h", 3))
        for _ in range(400):
            expression = chance_expression(chance, ("x", "f", "line"), calls, 6)
            values = {"x": chance.randrange(8), "f": chance.randrange(8), "line": chance.randrange(24)}
            value = slow_value(expression, values, helpers)
            for _ in range(2):
                self.assertEqual(value_of(expression, values, tuple(helpers.items())), value, expression)

    def test_large(self):
        self.assertEqual(value_of(deep_sum(40), {"x": 5}), 44)
        self.assertEqual(value_of(wide(399), {}), 200)
        product = 999
        for _ in range(39):
            product = ("*", product, 999)
        self.assertEqual(value_of(product, {}), 999 ** 40)

    def test_names_of_arguments(self):
        self.assertEqual(value_of(expression=("call", "f", ("x",)), values={"x": 1}, helpers=(("f", Asked(4)),)), 5)


class ReplacedTest(unittest.TestCase):
    def test_written_out(self):
        for expression, expected in (
            ("x", 2), ("y", "y"), (7, 7), (("not", "x"), ("not", 2)),
            (("-", "x", ("call", "x", ("x",))), ("-", 2, ("call", "x", (2,)))),
            (("call", "x", ()), ("call", "x", ())),
            (("call", "f", ("y", ("+", "x", "x"), 1)), ("call", "f", ("y", ("+", 2, 2), 1))),
        ):
            self.assertEqual(replaced(expression, "x", 2), expected)
            self.assertTrue(is_plain(replaced(expression, "x", 2)))

    def test_own_names_and_bounds(self):
        self.assertEqual(replaced(("+", "mark", "answer"), "mark", -999), ("+", -999, "answer"))
        self.assertEqual(replaced(expression="finger", name="finger", number=999), 999)

    def test_words_of_operators_stay(self):
        self.assertEqual(replaced(("not", ("call", "not", ("call",))), "call", 3), ("not", ("call", "not", (3,))))

    def test_value_is_that_with_the_number(self):
        chance = random.Random(9)
        helpers = {"x": Asked(1), "g": Asked(5)}
        for _ in range(300):
            expression = chance_expression(chance, ("x", "y"), (("x", 1), ("g", 2)), 5)
            number = chance.randrange(-9, 10)
            put_in = replaced(expression, "x", number)
            self.assertTrue(is_plain(put_in))
            self.assertNotIn("x", names_in(put_in))
            expected = slow_value(expression, {"x": number, "y": 3}, helpers)
            self.assertEqual(value_of(put_in, {"x": 77, "y": 3}, tuple(helpers.items())), expected)

    def test_large(self):
        self.assertEqual(expression_size(replaced(deep_sum(40), "x", 1)), (79, 40))
        self.assertEqual(value_of(replaced(deep_sum(40), "x", 1), {}), 40)


class NamesInTest(unittest.TestCase):
    def test_names_in(self):
        for expression, names in (
            (3, ()), ("x", ("x",)), ("mark", ("mark",)), (("and", ("<", "y", "x"), "y"), ("x", "y")),
            (("call", "f", ()), ()), (("call", "f", ("z", ("not", "b"), ("call", "g", ("a",)))), ("a", "b", "z")),
            (("+", "b", ("-", "a10", ("*", "a2", "a"))), ("a", "a10", "a2", "b")),
        ):
            self.assertEqual(names_in(expression), names)
            self.assertTrue(is_plain(names_in(expression)))

    def test_calls_in(self):
        for expression, names in (
            (3, ()), ("x", ()), (("not", "call"), ()), (("call", "f", ()), ("f",)),
            (("call", "g", (("call", "f", ("x",)), 1)), ("f", "g")),
            (("or", ("call", "b", ()), ("=", ("call", "a", ()), ("call", "b", (1,)))), ("a", "b")),
        ):
            self.assertEqual(calls_in(expression), names)
            self.assertTrue(is_plain(calls_in(expression)))

    def test_many(self):
        letters = tuple("abcdefghijklmnopqrst")
        sum_of_all, call_of_all = 0, 0
        for letter in letters[::-1] + letters[::3]:
            sum_of_all = ("+", letter, sum_of_all)
            call_of_all = ("call", letter, (call_of_all, 1))
        self.assertEqual((names_in(sum_of_all), calls_in(sum_of_all)), (letters, ()))
        self.assertEqual((names_in(call_of_all), calls_in(call_of_all)), ((), letters))

    def test_large(self):
        self.assertEqual(names_in(deep_sum(40)), ("x",))
        self.assertEqual(calls_in(deep_sum(40)), ())


if __name__ == "__main__":
    unittest.main()
