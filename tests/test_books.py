"""Books: points 46, 47, 49, 52 and 55."""

import unittest

from sameroom.books import Book
from tests.helping import deep, is_plain, told, wide

FIELDS = ("given", "cells", "places", "rules", "helpers", "first", "last")
RULES = ((0, 1, "x", 0, 1, 1, True), (1, ("!=", "x", 2), None, 0, 0, 0, False), (0, 1, "x", 1, 2, 1, True),
         (1, ("=", "x", 2), None, 0, 0, 2, False))
EMPTY = Book((), (("x", 2, 0),), 2, ())


def bad(rule):
    return ("BadBook", {"rule": rule})


def book(**changes):
    """A book that is right, but for these changes."""
    fields = {
        "given": (("g", 2),), "cells": (("x", 3, 0), ("y", 2, 1)), "places": 3, "rules": RULES, "helpers": (),
        "first": 0, "last": 2,
    }
    return Book(**{**fields, **changes})


class FrameTest(unittest.TestCase):
    """All that BadBook(-1) is for."""

    def right(self, **changes):
        self.assertIsInstance(told(book, **changes), Book, changes)

    def bad(self, **changes):
        self.assertEqual(told(book, **changes), bad(-1), changes)
        # The rules come later, so that it is told before a rule that is not right.
        if "rules" not in changes:
            self.assertEqual(told(book, **{**changes, "rules": ((0, "nobody", None, 0, 0, 0, False),)}), bad(-1), changes)

    def test_fields(self):
        worths = ((("g", 2),), (("x", 3, 0),), 3, RULES, (("h", EMPTY),), 2, 0)
        made = Book(*worths)
        self.assertEqual(tuple(getattr(made, field) for field in FIELDS), worths)
        self.assertTrue(Book(**dict(zip(FIELDS, worths))) == made)
        self.assertEqual((EMPTY.helpers, EMPTY.first, EMPTY.last), ((), 0, 1))

    def test_given(self):
        rules = {"rules": ()}
        self.right(given=(), **rules)
        self.right(given=(("a", 8), ("b", 4), ("c", 1)), **rules)
        self.bad(given=(("a", 1), ("b", 1), ("c", 1), ("d", 1)))
        for name in ("", "answer", "mark", "line", "finger", "stop", "X", "abcdefghi", "a b"):
            self.bad(given=((name, 2),))
        for size in (-1, 0, 9, 10 ** 5000, -10 ** 5000):
            self.bad(given=(("g", size),))
        self.bad(given=(("a", 8), ("b", 5)))
        self.bad(given=(("a", 3), ("b", 11)))
        self.bad(given=(("a", 4), ("b", 3), ("c", 3)))
        self.bad(given=(("a", 2), ("a", 2)))

    def test_number_of_cells(self):
        cells = tuple((name, 40, 39) for name in ("a", "b", "c", "d", "e", "f"))
        self.right(cells=cells, rules=())
        self.right(cells=cells[:1], rules=())
        self.bad(cells=cells + (("x", 3, 0),))
        self.bad(cells=())

    def test_names_of_cells(self):
        for name in ("answer", "mark", "line", "finger", "a", "abcdefgh", "a1"):
            self.right(cells=(("x", 3, 0), (name, 2, 0)))
        for name in ("", "stop", "cell", "book", "A", "abcdefghi", "1a", "a_b", " a"):
            self.bad(cells=(("x", 3, 0), (name, 2, 0)))
        self.bad(cells=(("x", 3, 0), ("x", 3, 0)))
        self.bad(cells=(("x", 3, 0), ("mark", 3, 0), ("y", 2, 0), ("mark", 3, 0)))
        self.bad(cells=(("x", 3, 0), ("g", 3, 0)))

    def test_sizes_and_starts(self):
        for size, start in ((1, 0), (40, 0), (40, 39), (9, 8)):
            self.right(cells=(("x", 3, 0), ("y", size, start)))
        for size, start in ((0, 0), (41, 0), (-3, -4), (2, 2), (2, -1), (40, 40), (10 ** 5000, 0), (2, 10 ** 5000), (1, 1)):
            self.bad(cells=(("x", 3, 0), ("y", size, start)))
            self.bad(cells=(("x", size, start), ("y", 2, 0)))

    def test_places(self):
        self.right(places=500, first=499, last=499)
        self.right(places=1, first=0, last=0, rules=())
        self.bad(places=501)
        self.bad(places=0, first=0, last=0, rules=())
        self.bad(places=-1)
        for place in (-1, 3, 4, 10 ** 5000):
            self.bad(first=place)
            self.bad(last=place)
        self.assertEqual(told(Book, (), (("x", 2, 0),), 1, ()), bad(-1))

    def test_number_of_rules(self):
        self.right(rules=())
        self.right(rules=RULES[:1] * 2000)
        self.bad(rules=RULES[:1] * 2001)
        self.bad(rules=((9, 9, None, 0, 0, 9, False),) * 2001)

    def test_helpers(self):
        self.right(helpers=tuple((name, EMPTY) for name in ("a", "x", "g", "abcdefgh")))
        self.bad(helpers=tuple((name, EMPTY) for name in ("a", "b", "c", "d", "e")))
        for name in ("", "answer", "mark", "stop", "H", "abcdefghi"):
            self.bad(helpers=(("a", EMPTY), (name, EMPTY)))
        self.bad(helpers=(("a", EMPTY), ("b", EMPTY), ("a", book())))


class RuleTest(unittest.TestCase):
    def setUp(self):
        self.helpers = (("none", EMPTY), ("two", Book((("a", 2), ("b", 2)), (("x", 2, 0),), 2, ())), ("x", EMPTY))

    def told(self, *rules):
        cells = (("x", 3, 0), ("mark", 2, 0), ("y", 40, 0))
        return told(Book, (("g", 2),), cells, 3, rules, self.helpers)

    def right(self, *rule):
        self.assertIsInstance(self.told(RULES[0], rule, RULES[1]), Book, rule)

    def wrong(self, *rule):
        self.assertEqual(self.told(RULES[0], rule, RULES[1]), bad(1), rule)
        self.assertEqual(self.told(rule, RULES[0], (9, 9, None, 9, 9, 9, True)), bad(0), rule)
        self.assertEqual(self.told(RULES[0], RULES[1], rule), bad(2), rule)

    def test_places(self):
        for place in (0, 1, 2):
            self.right(place, 1, None, 0, 0, 0, False)
            self.right(0, 1, None, 0, 0, place, True)
        for place in (-1, 3, 4, 500, 10 ** 5000, -10 ** 5000):
            self.wrong(place, 1, None, 0, 0, 0, False)
            self.wrong(0, 1, None, 0, 0, place, True)

    def each(self, check, expression):
        check(0, expression, None, 0, 0, 1, False)
        check(0, expression, "y", 0, 0, 1, False)
        check(0, 1, "y", expression, 0, 1, False)
        check(0, 1, "y", 0, expression, 1, True)

    def test_expressions(self):
        for expression in (0, -999, 999, "g", "x", "mark", wide(119), wide(120), deep(20), ("+", "x", ("-", "g", "mark")),
                           ("call", "none", ()), ("call", "two", ("x", ("call", "none", ())))):
            self.each(self.right, expression)
        for expression in (-1000, 1000, 10 ** 5000, wide(121), wide(122), deep(21), "z", "answer", "line", "finger", "none", "",
                           ("+", "x", "z"), ("not", 1000), ("call", "two", (1, "z")), ("call", "two", (1, -1000))):
            self.each(self.wrong, expression)

    def test_calls(self):
        none = ("call", "none", ())
        for expression in (("call", "none", (1,)), ("call", "two", ()), ("call", "two", (1,)), ("call", "two", (1, 2, 3)),
                           ("call", "other", ()), ("call", "g", ()), ("call", "y", ()), ("call", "", ()),
                           ("call", "two", (none, ("call", "none", (1,)))), ("+", none, ("call", "two", ())),
                           ("+", ("call", "two", ()), none)):
            self.each(self.wrong, expression)

    def test_cells(self):
        for name in ("x", "mark", "y"):
            self.right(0, 1, name, 0, 1, 1, False)
        for name in ("g", "z", "none", "two", "answer", "", "X"):
            self.wrong(0, 1, name, 0, 1, 1, False)

    def test_a_cell_in_its_own_expressions(self):
        for expression in ("x", ("+", 1, "x"), ("not", ("and", ("=", "mark", 1), "x")), ("call", "two", (1, "x"))):
            self.wrong(0, expression, "x", 0, 1, 1, False)
            self.wrong(0, 1, "x", expression, 1, 1, False)
            self.wrong(0, 1, "x", 0, expression, 1, False)
            self.right(0, expression, "y", expression, expression, 1, False)
            self.right(0, expression, None, 0, 0, 1, False)
        called = ("call", "x", ())
        self.right(0, called, "x", called, ("call", "two", (called, 0)), 1, True)

    def test_without_a_cell(self):
        self.right(0, 1, None, 0, 0, 1, False)
        for expression in (1, -1, 999, "x", "g", ("+", 0, 0), ("-", "x", "x"), ("not", 1), ("call", "none", ())):
            self.wrong(0, 1, None, expression, 0, 1, False)
            self.wrong(0, 1, None, 0, expression, 1, True)

    def test_the_first_wrong_rule(self):
        wrong = (0, "z", None, 0, 0, 0, False)
        self.assertEqual(self.told(RULES[0], (0, 1, None, 0, 0, 3, False), wrong, wrong), bad(1))
        self.assertEqual(told(book, rules=RULES[:1] * 1999 + (wrong,)), bad(1999))

    def test_documented(self):
        rules = ((0, 1, "x", 0, 1, 1, False), (0, ("=", "x", 0), "x", 0, 1, 1, False))
        self.assertEqual(told(Book, (), (("x", 2, 0),), 2, rules), bad(1))


class InverseTest(unittest.TestCase):
    def test_inverse(self):
        made = book(helpers=(("h", EMPTY),), rules=RULES + ((2, "g", "y", ("+", "x", 1), ("call", "h", ()), 1, True),))
        back = ~made
        self.assertIs(type(back), Book)
        self.assertEqual([getattr(back, field) for field in ("given", "cells", "places")], [made.given, made.cells, made.places])
        self.assertEqual(back.rules, (
            (1, 1, "x", 1, 0, 0, True), (0, ("!=", "x", 2), None, 0, 0, 1, False), (1, 1, "x", 2, 1, 0, True),
            (2, ("=", "x", 2), None, 0, 0, 1, False), (1, "g", "y", ("call", "h", ()), ("+", "x", 1), 2, True),
        ))
        self.assertTrue(back.helpers == made.helpers)
        self.assertEqual((back.first, back.last), (made.last, made.first))
        self.assertIs(~back == made, True)
        self.assertIs(back == made, False)
        self.assertEqual(made.rules[:4], RULES)
        self.assertTrue(is_plain(tuple(rule[:6] for rule in back.rules)))

    def test_an_inverse_of_its_own(self):
        made = book(rules=(), first=1, last=1)
        self.assertIs(~made == made, True)
        self.assertEqual(len(~made), 0)

    def test_fields_stay(self):
        made = book()
        before = [getattr(made, field) for field in FIELDS]
        for _ in range(3):
            ~~made
        self.assertEqual([getattr(made, field) for field in FIELDS], before)


class AskingTest(unittest.TestCase):
    def test_length_and_iteration(self):
        self.assertEqual((len(book()), len(EMPTY)), (4, 0))
        self.assertEqual((list(book()), list(EMPTY)), (list(RULES), []))
        self.assertEqual([rule[0] for rule in book()], [0, 1, 0, 1])

    def test_start(self):
        self.assertEqual(book(first=2).start, (2, (0, 1)))
        self.assertEqual(EMPTY.start, (0, (0,)))
        self.assertTrue(is_plain(book().start))

    def test_room(self):
        six = Book((("g", 2),), tuple((name, 2, 0) for name in ("a", "b", "c", "d", "e", "f")), 2, ())
        two = book(helpers=(("h", EMPTY),))
        self.assertEqual((EMPTY.room, six.room, book().room, two.room), (1, 6, 2, 3))
        self.assertEqual(book(helpers=(("a", EMPTY), ("b", six), ("c", two))).room, 8)
        self.assertEqual(book(helpers=(("a", two), ("b", EMPTY))).room, 5)
        self.assertIs(type(two.room), int)

    def test_room_of_helpers_within_helpers(self):
        made = EMPTY
        for count in range(2, 13):
            made = book(helpers=(("h", made),))
            self.assertEqual(made.room, 1 + 2 * (count - 1))

    def test_equality(self):
        self.assertIs(book() == book(), True)
        self.assertIs(book() != book(), False)
        self.assertIs(book(helpers=(("h", EMPTY),)) == book(helpers=(("h", Book((), (("x", 2, 0),), 2, ())),)), True)
        for change in ({"given": ()}, {"cells": (("x", 3, 0), ("y", 2, 0))}, {"places": 4}, {"rules": RULES[::-1]},
                       {"helpers": (("h", EMPTY),)}, {"first": 1}, {"last": 1}):
            self.assertIs(book() == book(**change), False, change)
            self.assertIs(book() != book(**change), True, change)
        self.assertIs(book(helpers=(("h", EMPTY),)) == book(helpers=(("h", book()),)), False)
        for value in (None, 0, "book", RULES, (), []):
            self.assertIs(book() == value, False)

    def test_answers_that_were_given_do_not_matter(self):
        one, two = book(), book()
        one.call_value((1,))
        self.assertIs(one == two, True)

    def test_methods_stand_in_the_class(self):
        for name in ("__init__", "__eq__", "__len__", "__iter__", "__invert__", "call_value", "start", "room"):
            self.assertIn(name, vars(Book))
        self.assertTrue(isinstance(vars(Book)["start"], property) and isinstance(vars(Book)["room"], property))


class CallValueTest(unittest.TestCase):
    def test_in_range_at_the_bound_and_beyond(self):
        made = Book((("a", 3), ("b", 2)), (("x", 40, 7), ("y", 40, 5)), 2, ((0, 1, "y", 5, ("+", "a", ("*", 3, "b")), 1, False),))
        for one in (-1000, -2, -1, 0, 1, 2, 3, 4, 99999):
            for two in (-5, -1, 0, 1, 2, 3, 10 ** 30):
                expected = one + 3 * two if 0 <= one < 3 and 0 <= two < 2 else -1
                self.assertEqual(made.call_value((one, two)), expected)
                self.assertIs(type(made.call_value(args=(one, two))), int)

    def test_the_last_cell_where_it_ends(self):
        self.assertEqual(book(rules=()).call_value((0,)), 1)
        self.assertEqual(book(cells=(("y", 2, 1), ("x", 3, 0))).call_value((1,)), 2)
        # It may end anywhere, not only at `last`.
        self.assertEqual(book(cells=(("y", 2, 1), ("x", 3, 0)), rules=RULES[:1], last=0).call_value((1,)), 1)

    def test_never(self):
        made = Book((("g", 3),), (("x", 2, 1),), 2, ((0, ("=", "g", 1), None, 0, 0, 0, False), (0, ("=", "g", 2), None, 0, 0, 1, True)))
        self.assertEqual([made.call_value((number,)) for number in (-1, 0, 1, 2, 3)], [-1, 1, 0, 1, -1])

    def test_equal_questions_behind_others(self):
        made = Book((("g", 3),), (("x", 4, 0),), 2, ((0, 1, "x", 0, ("+", "g", 1), 1, False),))
        self.assertEqual([made.call_value((number,)) for number in (0, 2, 5, 1, 0, 2, 5)], [1, 3, -1, 2, 1, 3, -1])
        self.assertEqual([(~made).call_value((number,)) for number in (0, 2)], [0, 0])

    def test_helpers_within_helpers(self):
        made = Book((("k", 3),), (("x", 40, 0),), 2, ((0, 1, "x", 0, ("+", "k", 1), 1, False),))
        for _ in range(11):
            rules = ((0, ("<", "k", 2), "x", 0, ("+", 1, ("call", "h", ("k",))), 1, False), (0, 1, None, 0, 0, 0, True))
            made = Book((("k", 3),), (("x", 40, 0),), 2, rules, (("h", made),))
        self.assertEqual([made.call_value((number,)) for number in (0, 1, 2, 3)], [12, 13, 0, -1])
        self.assertEqual(made.room, 12)

    def test_helpers_that_are_asked_very_often(self):
        # The innermost would be asked 8 ** 11 times, if nothing were kept.
        made = Book((("k", 2),), (("x", 8, 0),), 2, ())
        for _ in range(11):
            rules = tuple((0, ("=", ("call", "h", ("k",)), 0), "x", value, value + 1, 0, False) for value in range(7))
            made = Book((("k", 2),), (("x", 8, 0), ("y", 2, 0)), 2, rules, (("h", made),))
        self.assertEqual([made.call_value((number,)) for number in (0, 1, 2)], [0, 0, -1])


if __name__ == "__main__":
    unittest.main()
