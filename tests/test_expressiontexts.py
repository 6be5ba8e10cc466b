"""Written expressions, and reading them: points 11 to 13."""

import functools
import itertools
import random
import unittest

from sameroom.expressions import expression_size
from sameroom.expressiontexts import read_expression, write_expression
from tests.helping import BINARY, chance_expression, is_plain, told

LEVELS = {
    "or": 1, "and": 2, "=": 4, "!=": 4, "<": 4, "<=": 4, ">": 4, ">=": 4, "+": 5, "-": 5, "*": 6, "div": 6, "mod": 6,
}


def bad(at):
    return ("BadText", {"at": at})


def without_pair(text, at):
    """The text without the bracket at an index and the one that closes it."""
    depth = 0
    for end in range(at, len(text)):
        depth += {"(": 1, ")": -1}.get(text[end], 0)
        if depth == 0:
            return text[:at] + text[at + 1:end] + text[end + 1:]


class WriteTest(unittest.TestCase):
    def test_written_out(self):
        for expression, text in (
            (0, "0"), (7, "7"), (-999, "-999"), ("x", "x"), ("answer", "answer"),
            (("not", "a"), "not a"), (("not", ("not", "a")), "not not a"),
            (("not", ("=", "a", 1)), "not a = 1"), (("not", ("and", "a", 1)), "not (a and 1)"),
            (("not", ("or", "a", 1)), "not (a or 1)"), (("=", ("not", "a"), 1), "(not a) = 1"),
            (("=", 1, ("not", "a")), "1 = (not a)"), (("and", ("not", "a"), ("not", "b")), "not a and not b"),
            (("not", ("and", ("not", "a"), ("=", ("not", "b"), 0))), "not (not a and (not b) = 0)"),
            (("-", "a", ("-", "b", ("*", ("+", "c", -1), 2))), "a - (b - (c + -1) * 2)"),
            (("-", ("-", "a", "b"), "c"), "a - b - c"), (("-", -1, -2), "-1 - -2"),
            (("<", ("<", "a", "b"), "c"), "(a < b) < c"), (("<", "a", ("=", "b", "c")), "a < (b = c)"),
            (("*", ("div", "a", 2), ("mod", 3, "c")), "a div 2 * (3 mod c)"),
            (("or", ("or", "a", "b"), ("or", "c", "d")), "a or b or (c or d)"),
            (("and", ("or", "a", "b"), "c"), "(a or b) and c"), (("or", ("and", "a", "b"), "c"), "a and b or c"),
            (("or", "a", ("and", "b", "c")), "a or b and c"), (("and", "a", ("or", "b", "c")), "a and (b or c)"),
            (("call", "f", ()), "f()"), (("call", "f", (-1,)), "f(-1)"),
            (("call", "f", (("or", 1, 2), ("call", "g", ()), "x")), "f(1 or 2, g(), x)"),
            (("*", ("call", "f", (("+", 1, 2),)), ("+", 1, ("call", "g", ()))), "f(1 + 2) * (1 + g())"),
        ):
            self.assertEqual(write_expression(expression), text)
            self.assertEqual(read_expression(text), expression)

    def test_left_and_right_parts_of_every_level(self):
        for outer in BINARY:
            for inner in BINARY:
                compare = LEVELS[inner] == LEVELS[outer] == 4
                left = f"a {inner} b"
                left = f"({left})" if LEVELS[inner] < LEVELS[outer] or compare else left
                right = f"b {inner} c"
                right = f"({right})" if LEVELS[inner] <= LEVELS[outer] else right
                self.assertEqual(write_expression((outer, (inner, "a", "b"), "c")), f"{left} {outer} c")
                self.assertEqual(write_expression((outer, "a", (inner, "b", "c"))), f"a {outer} {right}")

    def test_brackets_stand_only_where_they_are_needed(self):
        atoms = ("a", -3, ("call", "f", (("or", 1, 2),)))
        parts = (*atoms, ("not", "b"), *((op, "c", 4) for op in BINARY))
        wholes = [("not", part) for part in parts]
        wholes += [(op, left, right) for op in BINARY for left in parts for right in parts]
        for whole in wholes:
            text = write_expression(whole)
            self.assertEqual(read_expression(text), whole)
            self.assertNotIn("  ", text)
            for at in range(len(text)):
                if text[at] == "(" and text[at - 1:at] != "f":
                    self.assertNotEqual(told(read_expression, without_pair(text, at)), whole, text)

    def test_reading_what_was_written(self):
        chance = random.Random(11)
        calls = (("f", 0), ("g", 1), ("h", 2), ("a0000000", 3))
        for _ in range(600):
            expression = chance_expression(chance, ("x", "finger", "abcdefgh"), calls, 6)
            text = write_expression(expression)
            if len(text) <= 400:
                self.assertEqual(read_expression(text), expression, text)
                self.assertEqual(write_expression(expression), text)

    def test_large(self):
        deep = "x"
        for _ in range(39):
            deep = ("-", 1, deep)
        self.assertEqual(write_expression(deep), "1 - (" * 38 + "1 - x" + ")" * 38)
        self.assertEqual(write_expression(expression=("not", 1)), "not 1")


class ReadTest(unittest.TestCase):
    def test_right_texts(self):
        for text, expression in (
            ("0", 0), ("999", 999), (" 12 ", 12), ("-5", -5), ("- 5", -5), ("-0", 0), ("x", "x"), ("mark", "mark"),
            ("line", "line"), ("finger", "finger"), ("answer", "answer"), ("abcdefgh", "abcdefgh"), ("procedur", "procedur"),
            ("f(1, x) * - 3", ("*", ("call", "f", (1, "x")), -3)),
            ("not a = 3and b", ("and", ("not", ("=", "a", 3)), "b")),
            ("a-1", ("-", "a", 1)), ("a--1", ("-", "a", -1)), ("a - - 1", ("-", "a", -1)), ("-1-1", ("-", -1, 1)),
            ("a<=b", ("<=", "a", "b")), ("a< -1", ("<", "a", -1)), ("a>=b", (">=", "a", "b")), ("a!=b", ("!=", "a", "b")),
            ("1or 2or 3", ("or", ("or", 1, 2), 3)), ("a or b and c", ("or", "a", ("and", "b", "c"))),
            ("a and b or c", ("or", ("and", "a", "b"), "c")), ("not not a", ("not", ("not", "a"))),
            ("not a and not b", ("and", ("not", "a"), ("not", "b"))), ("not a + 1 < 2", ("not", ("<", ("+", "a", 1), 2))),
            ("a - b - c", ("-", ("-", "a", "b"), "c")), ("a - b * c", ("-", "a", ("*", "b", "c"))),
            ("a * b - c", ("-", ("*", "a", "b"), "c")), ("a div b mod c * 2", ("*", ("mod", ("div", "a", "b"), "c"), 2)),
            ("a + b = c - d", ("=", ("+", "a", "b"), ("-", "c", "d"))),
            ("a < b and c < d or e < f", ("or", ("and", ("<", "a", "b"), ("<", "c", "d")), ("<", "e", "f"))),
            ("(a < b) < c", ("<", ("<", "a", "b"), "c")), ("a < (b < c)", ("<", "a", ("<", "b", "c"))),
            ("((a))", "a"), ("(not a) = b", ("=", ("not", "a"), "b")), ("-1*2", ("*", -1, 2)),
            ("f()", ("call", "f", ())), ("f ( ) ", ("call", "f", ())), ("f(1,2,3)", ("call", "f", (1, 2, 3))),
            ("f((1))", ("call", "f", (1,))), ("f(a < b, c < d)", ("call", "f", (("<", "a", "b"), ("<", "c", "d")))),
            ("f(g(), h(1) or 2)", ("call", "f", (("call", "g", ()), ("or", ("call", "h", (1,)), 2)))),
            ("f(not a)", ("call", "f", (("not", "a"),))), ("f + f()", ("+", "f", ("call", "f", ()))),
            ("f(f)", ("call", "f", ("f",))),
        ):
            self.assertEqual(told(read_expression, text), expression, text)
            self.assertTrue(is_plain(read_expression(text)), text)

    def test_no_token_or_wrong_run_or_word(self):
        for text, at in (
            ("a b ?", 4), ("a + 07 ?", 4), ("a + stop ?", 9), ("?", 0), ("a ? ?", 2), ("A", 0), ("a\n", 1), ("\na", 0),
            ("a + _b", 4), ("!", 0), ("a ! = b", 2), ("a =! b", 3), ("007", 0), ("00", 0), ("01", 0), ("a + 1000", 4),
            ("1000", 0), ("9999", 0), ("00x", 0), ("abcdefghi", 0), ("a + procedure", 4), ("a + procedure1", 4),
            ("aB", 1), ("f(1, 2, 3, 4, 05)", 14), (") 1000", 2), ("a b c d 00", 8), ("stop 12345", 5), ("a;", 1), ("1.5", 1),
            ("a & b", 2), ("\"", 0), ("a\n?", 1), ("[", 0), ("a b" + " " * 9 + "~", 12), ("1" * 400, 0), ("x" * 400, 0),
        ):
            self.assertEqual(told(read_expression, text), bad(at), text)

    def test_every_sign_that_begins_no_token(self):
        for code in (10, *range(32, 127)):
            sign = chr(code)
            if sign == "%":
                continue
            if sign not in "abcdefghijklmnopqrstuvwxyz0123456789<>=+-*(), ":
                self.assertEqual(told(read_expression, sign), bad(0), sign)
                self.assertEqual(told(read_expression, "a " + sign), bad(2), sign)
                self.assertEqual(told(read_expression, ") " + sign + " 00"), bad(2), sign)

    def test_tokens_that_cannot_follow(self):
        for text, at in (
            ("a b", 2), ("3x", 1), ("0x", 1), ("x 3", 2), ("3 3", 2), ("- x", 2), ("-(1)", 1), ("--1", 1), ("- - 1", 2), ("-f()", 1),
            ("a + stop", 4), ("stop", 0), ("answers", 0), ("a case", 2), ("to", 0), ("mark(1)", 4), ("answer (", 7),
            ("f(1, 2, 3, 4)", 9), ("f(1,2,3,", 7), ("f(g(1, 2, 3, 4))", 11), ("a < b < c", 6), ("a = b != c", 6),
            ("not a < b < c", 10), ("a < b + c < d", 10), ("a and b < c < d", 12), ("f(a < b < c)", 8), ("(a < b > c)", 7),
            ("()", 1), ("(", 1), (")", 0), ("a)", 1), ("(a))", 3), ("f(,", 2), ("f(1,)", 4), ("f(1 2)", 4), ("a,b", 1),
            ("(a,b)", 2), ("f((a,b))", 4), ("+ 1", 0), ("* 1", 0), ("a + + b", 4), ("a + * b", 4), ("a = = b", 4),
            ("a or or b", 5), ("a and not", 9), ("a not b", 2), ("a = not b", 4), ("a + not b", 4), ("not", 3), ("not )", 4),
            ("not or", 4), ("f(not )", 6), ("3(", 1), ("(f)(1)", 3), ("f(1)(2)", 4), ("f() x", 4), ("div(1)", 0), ("mod", 0),
            ("a div div b", 6), ("a(b c)", 4), ("a (b) c", 6), ("a < b = ", 6), ("a - -b", 5), ("or", 0), ("a <", 3),
        ):
            self.assertEqual(told(read_expression, text), bad(at), text)

    def test_the_end_comes_too_early(self):
        for text in ("", " ", "     ", "a +", "a + ", "not", "-", "- ", "(", "f(", "f(1", "f(1,", "f(1, 2  ", "(a", "((a)",
                     "a or", "a = ", "a and not ", "f(g()", "a * -  ", "(a < b", "not (", "f(1, 2, 3 "):
            self.assertEqual(told(read_expression, text), bad(len(text)), text)

    def test_long_and_deep_texts(self):
        text = "(" * 20 + "a" + ")" * 20
        self.assertEqual(read_expression(text), "a")
        calls = "f(" * 20 + "a" + ")" * 20
        self.assertEqual(expression_size(read_expression(calls)), (21, 21))
        self.assertEqual(told(read_expression, text[:-1]), bad(40))
        self.assertEqual(told(read_expression, text + ")"), bad(41))
        self.assertEqual(expression_size(read_expression("a+" * 199 + "a")), (399, 200))
        self.assertEqual(expression_size(read_expression("not " * 99 + "a")), (100, 100))
        brackets = "(not not 1 + f(1 - not " * 10
        self.assertEqual(told(read_expression, brackets), bad(19))
        mixed = "not (1 + f(2 * (3 or " * 6 + "a" + ")))" * 6
        self.assertEqual(expression_size(read_expression(mixed))[1], 31)
        self.assertEqual(told(read_expression, mixed + " " * (399 - len(mixed)) + "b"), bad(399))
        self.assertEqual(read_expression(" " * 399 + "a"), "a")

    def test_by_name_and_again(self):
        self.assertEqual(read_expression(text="a"), "a")
        for _ in range(2):
            self.assertEqual(told(read_expression, "a b"), bad(2))
            self.assertEqual(read_expression("a + b"), ("+", "a", "b"))


class Grammar:
    """The grammar of point 12 as it stands there, over a tuple of tokens; an IndexError or ValueError is a wrong text."""

    def __init__(self, tokens):
        self.tokens = tokens
        self.at = 0

    def sees(self, *words):
        return self.at < len(self.tokens) and self.tokens[self.at] in words

    def one(self):
        self.at += 1
        return self.tokens[self.at - 1]

    def chain(self, part, *words):
        left = part()
        while self.sees(*words):
            left = (self.one(), left, part())
        return left

    def expr(self):
        return self.chain(self.conj, "or")

    def conj(self):
        return self.chain(self.test, "and")

    def test(self):
        if self.sees("not"):
            return (self.one(), self.test())
        return self.comp()

    def comp(self):
        left = self.sum()
        if self.sees("=", "<"):
            return (self.one(), left, self.sum())
        return left

    def sum(self):
        return self.chain(self.prod, "+", "-")

    def prod(self):
        return self.chain(self.atom, "div")

    def atom(self):
        token = self.one()
        if token == "-":
            return -int(self.one())
        if token == "(":
            inner = self.expr()
            if self.one() != ")":
                raise ValueError
            return inner
        if token == "f" and self.sees("("):
            return self.call()
        return token if token in ("f", "mark") else int(token)

    def call(self):
        self.one()
        args = []
        if not self.sees(")"):
            args.append(self.expr())
            while self.sees(","):
                self.one()
                args.append(self.expr())
        if self.one() != ")" or len(args) > 3:
            raise ValueError
        return ("call", "f", tuple(args))

    def whole(self):
        expression = self.expr()
        if self.at != len(self.tokens):
            raise ValueError
        return expression


def by_grammar(tokens):
    """The expression of these tokens, or None."""
    try:
        return Grammar(tokens).whole()
    except (IndexError, ValueError):
        return None


@functools.lru_cache(maxsize=None)
def may_begin(tokens):
    """Whether a right text begins with these tokens: some operand and some brackets then end it."""
    for count in range(tokens.count("(") + 1):
        for ending in ((), ("1",)):
            if by_grammar((*tokens, *ending, *([")"] * count))) is not None:
                return True
    return False


class GrammarTest(unittest.TestCase):
    def expected(self, tokens):
        whole = by_grammar(tokens)
        if whole is not None:
            return whole
        starts = [sum(len(token) + 1 for token in tokens[:at]) for at in range(len(tokens))]
        for at in range(len(tokens)):
            if not may_begin(tokens[:at + 1]):
                return bad(starts[at])
        return bad(len(" ".join(tokens)))

    def test_all_short_sequences(self):
        words = ("7", "f", "mark", "not", "or", "<", "-", "div", "(", ")", ",", "stop")
        for length in range(1, 5):
            for tokens in itertools.product(words, repeat=length):
                text = " ".join(tokens)
                self.assertEqual(told(read_expression, text), self.expected(tokens), text)

    def test_some_longer_sequences(self):
        chance = random.Random(13)
        words = ("7", "f", "f", "f", "(", "(", ")", ")", ",", ",", "mark", "not", "or", "and", "=", "<", "+", "-", "div", "to")
        for _ in range(400):
            tokens = []
            while len(tokens) < 14:
                word = chance.choice(words)
                # Mostly tokens that can follow, so that errors come late.
                if may_begin((*tokens, word)) or chance.randrange(60) == 0:
                    tokens.append(word)
            tokens = tuple(tokens[:chance.randrange(5, 15)])
            text = " ".join(tokens)
            self.assertEqual(told(read_expression, text), self.expected(tokens), text)


if __name__ == "__main__":
    unittest.main()
