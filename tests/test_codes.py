"""Codes: points 23 to 26 and 33."""

import unittest

from sameroom.codes import Code, started
from tests.helping import deep, is_plain, told, wide

FIELDS = ("given", "cells", "answers", "lines", "helpers", "entry")
COUNT = (("set", "x", ("mod", ("+", "x", 1), 3), 1), ("pick", ("=", "x", 2), (0, 2)), ("stop", "x"))


def bad(line):
    return ("BadCode", {"line": line})


def code(**changes):
    """A code that is right, but for these changes."""
    fields = {
        "given": (("g", 2),), "cells": (("x", 3, 0),), "answers": 3, "lines": COUNT, "helpers": (), "entry": 0,
    }
    return Code(**{**fields, **changes})


class FrameTest(unittest.TestCase):
    """All that BadCode(-1) is for."""

    def bad(self, **changes):
        self.assertEqual(told(code, **changes), bad(-1), changes)
        # The lines come later, so that it is told before a line that is not right.
        if "lines" not in changes:
            self.assertEqual(told(code, **{**changes, "lines": (("stop", "nobody"),) * 3}), bad(-1), changes)

    def test_fields(self):
        helper = Code((), (), 1, (("fail",),))
        worths = ((("g", 2),), (("x", 3, 0),), 3, COUNT, (("h", helper),), 2)
        made = Code(*worths)
        self.assertEqual(tuple(getattr(made, field) for field in FIELDS), worths)
        self.assertEqual(Code(**dict(zip(FIELDS, worths))), made)
        self.assertEqual((code().helpers, code().entry), ((), 0))
        self.assertEqual((Code((), (), 1, (("fail",),)).helpers, Code((), (), 1, (("fail",),)).entry), ((), 0))

    def test_names(self):
        end = {"lines": (("stop", 0),)}
        code(given=tuple((name, 2) for name in "abc"), cells=tuple((name, 2, 0) for name in "defg"), **end)
        self.bad(given=tuple((name, 1) for name in "abcd"))
        self.bad(cells=tuple((name, 1, 0) for name in "abcde"))
        for name in ("", "line", "abcdefghi", "X", "stop"):
            self.bad(given=((name, 2),))
            self.bad(cells=(("x", 3, 0), (name, 2, 0)))
        self.bad(given=(("a", 2), ("a", 2)))
        self.bad(given=(("x", 2),))
        self.bad(cells=(("x", 3, 0), ("y", 2, 0), ("y", 2, 0)))

    def test_sizes(self):
        end = {"lines": (("stop", 0),)}
        code(given=(("a", 4), ("b", 8)), cells=(("c", 8, 7), ("d", 8, 0), ("e", 1, 0)), answers=9, **end)
        for size in (-2, 0, 9, 100):
            self.bad(given=(("g", size),))
            self.bad(cells=(("x", 3, 0), ("y", size, 0)))
        for start in (-1, 3, 4):
            self.bad(cells=(("x", 3, start),))
        self.bad(given=(("a", 5), ("b", 7)))
        self.bad(cells=(("x", 2, 0), ("y", 5, 0), ("z", 7, 0)))
        for answers in (-1, 0, 10):
            self.bad(answers=answers)

    def test_number_of_lines_and_entry(self):
        for count in (1, 24):
            code(lines=(("fail",),) * count, entry=count - 1)
            for entry in (-1, count, count + 1):
                self.bad(lines=(("fail",),) * count, entry=entry)
        self.bad(lines=())
        self.bad(lines=(("fail",),) * 25)
        self.bad(lines=(("fail",),) * 25, entry=24)
        self.bad(entry=3)
        self.bad(entry=-1)

    def test_helpers(self):
        helper = Code((), (), 1, (("fail",),))
        code(helpers=tuple((name, helper) for name in ("a", "x", "g", "abcdefgh")))
        self.bad(helpers=tuple((name, helper) for name in "abcde"))
        for name in ("", "mark", "abcdefghi", "H", "call me"):
            self.bad(helpers=(("a", helper), (name, helper)))
        self.bad(helpers=(("a", helper), ("b", helper), ("a", code())))


class LineTest(unittest.TestCase):
    def setUp(self):
        self.helpers = (("none", Code((), (), 1, (("fail",),))), ("two", code(given=(("a", 2), ("b", 2)))))

    def told(self, *lines):
        return told(Code, (("g", 2),), (("x", 3, 0), ("y", 2, 0)), 2, lines, self.helpers)

    def right(self, line):
        self.assertIsInstance(self.told(("fail",), line, ("stop", 0)), Code, line)

    def wrong(self, line):
        self.assertEqual(self.told(("fail",), line, ("stop", 0)), bad(1), line)
        self.assertEqual(self.told(line, ("fail",), ("stop", 9999)), bad(0), line)
        self.assertEqual(self.told(("stop", "g"), ("fail",), line), bad(2), line)

    def test_cells(self):
        self.right(("set", "y", 0, 0))
        for name in ("g", "z", "none", "two", "mark", "line", ""):
            self.wrong(("set", name, 0, 0))

    def test_targets(self):
        for target in (0, 1, 2):
            self.right(("set", "x", 0, target))
            self.right(("pick", 0, (target,)))
        for target in (-1, 3, 24, 999):
            self.wrong(("set", "x", 0, target))
            self.wrong(("pick", 0, (target,)))
            self.wrong(("pick", 0, (0, 1, 2, target)))
            self.wrong(("pick", 0, (0, target, 1)))
        self.right(("pick", 0, (0, 0, 1, 1, 2, 2)))
        self.wrong(("pick", 0, (0,) * 7))
        self.wrong(("pick", 0, ()))

    def lines_with(self, expression):
        return (("set", "x", expression, 0), ("pick", expression, (0,)), ("stop", expression))

    def test_expressions(self):
        for expression in (wide(31), wide(32), deep(9), -999, 999, "g", "x", "y", ("+", "x", ("-", "g", "y"))):
            for line in self.lines_with(expression):
                self.right(line)
        for expression in (wide(33), wide(34), wide(399), deep(10), deep(40), -1000, 1000, "z", "mark", "answer", "line", "finger",
                           "none", "", ("not", ("+", "z", "x")), ("+", 1, 1000), ("call", "two", (1, "z")), ("call", "two", (1, -1000))):
            for line in self.lines_with(expression):
                self.wrong(line)

    def test_calls(self):
        none = ("call", "none", ())
        for expression in (none, ("call", "two", (1, "x")), ("call", "two", (none, ("call", "two", (none, 1))))):
            for line in self.lines_with(expression):
                self.right(line)
        for expression in (("call", "none", (1,)), ("call", "two", ()), ("call", "two", (1,)), ("call", "two", (1, 2, 3)),
                           ("call", "other", ()), ("call", "x", ()), ("call", "", ()), ("call", "two", (none, ("call", "none", (1,)))),
                           ("+", none, ("call", "none", (1,))), ("+", ("call", "none", (1,)), none)):
            for line in self.lines_with(expression):
                self.wrong(line)

    def test_the_first_wrong_line(self):
        self.assertEqual(self.told(("fail",), ("stop", "z"), ("set", "z", 0, 0), ("pick", 0, ())), bad(1))
        self.assertEqual(self.told(("fail",), ("fail",), ("set", "z", 0, 0), ("stop", "z")), bad(2))

    def test_documented(self):
        self.assertEqual(told(Code, (), (("x", 2, 0),), 1, (("set", "x", "y", 0),)), bad(0))


class EqualityTest(unittest.TestCase):
    def test_equality(self):
        helper = Code((), (), 1, (("fail",),))
        self.assertIs(code() == code(), True)
        self.assertIs(code(helpers=(("h", helper),)) == code(helpers=(("h", Code((), (), 1, (("fail",),))),)), True)
        for change in (
            {"given": (("g", 3),)}, {"cells": (("x", 3, 1),)}, {"answers": 2}, {"lines": COUNT[:2] + (("stop", 0),)},
            {"helpers": (("h", helper),)}, {"entry": 1},
        ):
            self.assertIs(code() == code(**change), False, change)
            self.assertIs(code() != code(**change), True, change)
        self.assertIs(code(helpers=(("h", helper),)) == code(helpers=(("h", code()),)), False)
        for other in (None, 0, "code", COUNT, ()):
            self.assertIs(code() == other, False)

    def test_answers_that_were_given_do_not_matter(self):
        one, two = code(), code()
        one.call_value((1,))
        self.assertIs(one == two, True)

    def test_methods_stand_in_the_class(self):
        for name in ("__init__", "__eq__", "call_value", "state_count"):
            self.assertIn(name, vars(Code))
        self.assertIsInstance(vars(Code)["state_count"], property)


class StateCountTest(unittest.TestCase):
    def test_state_count(self):
        for cells, lines, count in (
            ((), 1, 1), ((), 24, 24), ((("x", 3, 0),), 5, 15), ((("x", 8, 0), ("y", 8, 0)), 24, 1536),
            ((("x", 2, 0), ("y", 3, 0), ("z", 1, 0), ("w", 5, 4)), 2, 60),
        ):
            made = Code((("g", 8),), cells, 1, (("fail",),) * lines)
            self.assertEqual(made.state_count, count)
            self.assertIs(type(made.state_count), int)


class StartedTest(unittest.TestCase):
    def test_started(self):
        helper = Code((), (), 1, (("fail",),))
        before = Code((("g", 2),), (("x", 3, 0), ("y", 2, 1)), 3, (("set", "x", "g", 1), ("stop", "x")), (("h", helper),))
        after = started(before, (1, (2, 0)))
        self.assertEqual(after, Code(before.given, (("x", 3, 2), ("y", 2, 0)), 3, before.lines, before.helpers, 1))
        self.assertTrue(is_plain(after.cells))
        self.assertEqual((before.entry, before.cells), (0, (("x", 3, 0), ("y", 2, 1))))
        self.assertEqual(started(code=after, state=(0, (0, 1))), before)
        self.assertIs(after == before, False)

    def test_documented(self):
        before = Code((), (("x", 3, 0),), 3, COUNT)
        begun = started(before, (0, (2,)))
        self.assertEqual((begun.entry, begun.cells, begun.call_value(()), begun == before), (0, (("x", 3, 2),), 3, False))
        self.assertEqual(started(before, (2, (1,))).call_value(()), 2)
        self.assertEqual(before.call_value(()), 3)

    def test_without_cells(self):
        self.assertEqual(started(Code((), (), 2, (("fail",), ("stop", 1))), (1, ())).call_value(()), 2)


class CallValueTest(unittest.TestCase):
    def test_in_range_at_the_bound_and_beyond(self):
        made = Code((("a", 3), ("b", 2)), (), 6, (("stop", ("+", "a", ("*", 3, "b"))),))
        for one in (-1000, -2, -1, 0, 1, 2, 3, 4, 99999):
            for two in (-5, -1, 0, 1, 2, 3, 10 ** 30):
                expected = 1 + one + 3 * two if 0 <= one < 3 and 0 <= two < 2 else -1
                self.assertEqual(made.call_value((one, two)), expected)
                self.assertIs(type(made.call_value(args=(one, two))), int)

    def test_never_answers_and_faults(self):
        made = Code((("g", 2),), (), 1, (("pick", "g", (0,)),))
        self.assertEqual([made.call_value((number,)) for number in (0, 1, 2, -1)], [0, 2, -1, -1])

    def test_equal_questions_behind_others(self):
        made = code()
        first = [made.call_value((number,)) for number in (0, 1, 2)]
        self.assertEqual(first, [3, 3, -1])
        self.assertEqual([made.call_value((number,)) for number in (2, 1, 0, 1)], [-1, 3, 3, 3])

    def test_helpers_within_helpers(self):
        # Each one goes on for ever exactly where the one before ends.
        made = Code((("k", 3),), (("x", 3, 0),), 3, (("set", "x", "k", 1), ("pick", ("=", "x", 0), (2, 0)), ("stop", "x")))
        for _ in range(11):
            lines = (
                ("set", "x", ("mod", ("+", "x", 1), 3), 1),
                ("pick", ("=", ("call", "h", ("k",)), 0), (0, 2)),
                ("stop", ("-", 2, ("call", "h", (("call", "h", (-1,)),)))),
            )
            made = Code((("k", 3),), (("x", 3, 0),), 9, lines, (("h", made),))
        self.assertEqual([made.call_value((number,)) for number in (-1, 0, 1, 2, 3)], [-1, 4, 0, 0, -1])

    def test_helpers_that_are_asked_very_often(self):
        # The innermost would be asked 15 ** 11 times, if nothing were kept.
        made = Code((("k", 2),), (), 2, (("stop", "k"),))
        for _ in range(11):
            lines = (
                ("set", "x", ("+", "x", ("-", ("call", "h", ("k",)), "k")), 1), ("pick", ("=", "x", 7), (0, 2)),
                ("stop", ("-", ("call", "h", ("k",)), 1)),
            )
            made = Code((("k", 2),), (("x", 8, 0),), 2, lines, (("h", made),))
        self.assertEqual([made.call_value((number,)) for number in (0, 1, 2)], [1, 2, -1])


if __name__ == "__main__":
    unittest.main()
