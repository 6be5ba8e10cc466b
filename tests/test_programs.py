"""Programs and libraries: points 14 to 18, and of point 27 the number of lines."""

import itertools
import unittest

from sameroom.errors import BadLibrary
from sameroom.programs import Library, Program
from tests.helping import deep, told, wide

FIELDS = ("name", "given", "cells", "answers", "procedures", "body")


def program(**changes):
    """A program that keeps every rule, but for these changes."""
    fields = {
        "name": "p", "given": (("g", 2),), "cells": (("x", 4, 1),), "answers": 2,
        "procedures": (("turn", (("set", "x", 0),)),), "body": (("do", "turn"), ("stop", "g")),
    }
    return Program(**{**fields, **changes})


def broken(at, rule):
    return ("BadLibrary", {"program": at, "rule": rule})


def nested(depth, statement=("fail",)):
    """A body with a statement that lies within so many others."""
    body = (statement,)
    for at in range(depth):
        body = ((("if", 1, body, ()),), (("if", 1, (), body),), (("while", 0, body),), (("pick", 0, ((), body)),))[at % 4]
    return body


class ProgramTest(unittest.TestCase):
    def test_fields(self):
        worths = ("p", (("g", 0),), (("x", 99, -1),), 77, (("a", ()),), (("nothing",),))
        made = Program(*worths)
        self.assertEqual(tuple(getattr(made, field) for field in FIELDS), worths)
        self.assertEqual(Program(**dict(zip(FIELDS, worths))), made)

    def test_equality(self):
        self.assertIs(program() == program(), True)
        for field, worth in (
            ("name", "q"), ("given", ()), ("cells", ()), ("answers", 3), ("procedures", ()), ("body", ()),
        ):
            self.assertIs(program() == program(**{field: worth}), False, field)
            self.assertIs(program() != program(**{field: worth}), True, field)
        for other in (None, "p", 0, (), Library((program(),)), tuple(getattr(program(), field) for field in FIELDS)):
            self.assertIs(program() == other, False)

    def test_methods_stand_in_the_classes(self):
        self.assertIn("__eq__", vars(Program))
        for method in ("__init__", "__eq__", "__len__", "__iter__", "__contains__", "named"):
            self.assertIn(method, vars(Library))


class RuleTest(unittest.TestCase):
    def kept(self, **changes):
        self.assertEqual(Library((program(**changes),)).programs, (program(**changes),))

    def broken(self, rule, **changes):
        self.assertEqual(told(Library, (program(**changes),)), broken(0, rule), changes)

    def test_number_of_programs(self):
        five = tuple(program(name=f"p{at}") for at in range(5))
        self.assertEqual(len(Library(five)), 5)
        self.assertEqual(told(Library, (*five, program(name="p5"))), broken(5, 0))
        self.assertEqual(told(Library, (program(name="P"),) * 6), broken(5, 0))
        self.assertEqual(told(Library, (program(name="P"),) * 9), broken(5, 0))

    def test_rule_1(self):
        for name in ("a", "abcdefgh", "g", "x", "turn"):
            self.kept(name=name)
        for name in ("", "abcdefghi", "P", "stop", "mark", "1a", "a b"):
            self.broken(1, name=name)
        self.assertEqual(told(Library, (program(), program(name="q"), program())), broken(2, 1))

    def test_rule_2(self):
        plain = {"procedures": (), "body": ()}
        self.kept(given=(("a", 2), ("b", 2), ("c", 2)), cells=tuple((name, 2, 0) for name in "defg"), **plain)
        self.broken(2, given=tuple((name, 1) for name in "abcd"), **plain)
        self.broken(2, cells=tuple((name, 1, 0) for name in "abcde"), **plain)
        for name in ("", "line", "abcdefghi", "A", "end"):
            self.broken(2, given=((name, 2),), **plain)
            self.broken(2, cells=((name, 2, 0),), **plain)
        self.broken(2, given=(("a", 2), ("a", 2)), **plain)
        self.broken(2, cells=(("a", 2, 0), ("b", 2, 0), ("a", 3, 0)), **plain)
        self.broken(2, given=(("b", 2), ("a", 2)), cells=(("a", 2, 0),), **plain)

    def test_rule_3(self):
        plain = {"procedures": (), "body": ()}
        for size in (1, 8):
            self.kept(given=(("a", size),), cells=(("b", size, size - 1),), **plain)
            self.kept(given=(("a", size),), cells=(("b", size, 0),), **plain)
        for size in (-1, 0, 9, 999):
            self.broken(3, given=(("a", size),), **plain)
            self.broken(3, given=(), cells=(("b", size, 0),), **plain)
        for size, start in ((1, 1), (1, -1), (8, 8), (8, -1), (4, 5)):
            self.broken(3, cells=(("x", size, start),), **plain)
        self.broken(3, cells=(("y", 2, 0), ("x", 2, 2)), **plain)
        for given in ((("a", 4), ("b", 8)), (("a", 2), ("b", 4), ("c", 4))):
            self.kept(given=given, **plain)
        for given in ((("a", 5), ("b", 7)), (("a", 3), ("b", 3), ("c", 4))):
            self.broken(3, given=given, **plain)
        for cells in ((("a", 8, 0), ("b", 8, 0)), (("a", 2, 0), ("b", 4, 0), ("c", 8, 0), ("d", 1, 0))):
            self.kept(cells=cells, **plain)
        for cells in ((("a", 2, 0), ("b", 5, 0), ("c", 7, 0)), (("a", 3, 0), ("b", 3, 0), ("c", 8, 0), ("d", 1, 0))):
            self.broken(3, cells=cells, **plain)
        self.broken(3, given=(("a", -1), ("b", -1)), **plain)
        for answers in (1, 9):
            self.kept(answers=answers)
        for answers in (-1, 0, 10, 999):
            self.broken(3, answers=answers)
        self.kept(given=(), cells=(), **plain)

    def test_rule_4(self):
        four = tuple((name, ()) for name in ("a", "g", "x", "p"))
        self.kept(procedures=four, body=())
        self.broken(4, procedures=(*four, ("e", ())), body=())
        for name in ("", "mark", "abcdefghi", "A", "do"):
            self.broken(4, procedures=((name, ()),), body=())
        self.broken(4, procedures=(("a", ()), ("b", ()), ("a", (("fail",),))), body=())

    def test_rule_5_names_and_cases(self):
        for statement in (("set", "g", 0), ("set", "y", 0), ("set", "turn", 0), ("set", "mark", 0), ("set", "", 0),
                          ("do", "other"), ("do", "x"), ("do", "p"), ("do", ""), ("pick", 0, ()), ("pick", 0, ((),) * 7)):
            self.broken(5, body=(statement,))
            self.broken(5, procedures=(("turn", ()), ("b", (statement,))))
            self.broken(5, body=nested(1, statement))
            self.broken(5, body=nested(2, statement))
            self.broken(5, body=nested(3, statement))
            self.broken(5, body=nested(4, statement))
        for count in (1, 6):
            self.kept(body=(("pick", 0, ((),) * count),))
        self.kept(procedures=(("a", (("do", "b"),)), ("b", ())), body=(("do", "a"),))

    def test_rule_5_depth(self):
        self.kept(body=nested(5))
        self.broken(5, body=nested(6))
        self.broken(5, body=nested(20))
        self.broken(5, body=(("fail",), *nested(7), ("fail",)))
        self.kept(procedures=(("turn", nested(5)),), body=nested(5, ("do", "turn")))
        self.broken(5, procedures=(("turn", ()), ("b", nested(6))))

    def test_rule_5_number_of_statements(self):
        for count, kept in ((60, True), (61, False), (2000, False)):
            for procedures, body in (
                ((("a", (("fail",),) * count),), ()),
                ((("a", ()),), (("do", "a"),) * count),
                ((("a", (("while", 0, (("fail",),) * (count - 5)),)), ("b", (("fail",), ("fail",)))), (("stop", 0), ("stop", 0))),
                ((("a", (("pick", 0, ((("if", 0, (), (("fail",),) * (count - 3)),), (("fail",),))),)),), ()),
            ):
                if kept:
                    self.kept(procedures=procedures, body=body)
                else:
                    self.broken(5, procedures=procedures, body=body)

    def statements(self, expression):
        return (("set", "x", expression), ("if", expression, (), ()), ("while", expression, ()),
                ("pick", expression, ((),)), ("stop", expression))

    def test_rule_6(self):
        good = (wide(29), wide(30), deep(8), -999, 999, "g", "x", ("+", "x", ("not", "g")))
        bad = (wide(31), wide(32), wide(401), deep(9), deep(40), deep(200), -1000, 1000, 99999, "y", "mark", "line", "answer",
               "finger", "p", "turn", "", ("+", "x", ("not", "h")), ("call", "q", ("z",)), ("call", "p", (1000,)))
        for expression in good:
            for statement in self.statements(expression):
                self.kept(body=(statement,))
        for expression in bad:
            for statement in self.statements(expression):
                self.broken(6, body=(statement,))
                self.broken(6, procedures=(("turn", ()), ("b", nested(2, statement))))

    def test_rule_7(self):
        first = program(name="first", given=(), procedures=(), body=())
        second = program(name="second", given=(("a", 2), ("b", 3)), procedures=(), body=())
        good = (("call", "first", ()), ("call", "second", (1, 2)), ("not", ("call", "second", (("call", "first", ()), "x"))))
        bad = (("call", "first", (1,)), ("call", "second", ()), ("call", "second", (1,)), ("call", "second", (1, 2, 3)),
               ("call", "p", (1,)), ("call", "later", ()), ("call", "x", ()), ("call", "turn", ()), ("call", "", ()),
               ("call", "second", (1, ("call", "first", (2,)))), ("+", ("call", "first", ()), ("call", "other", ())),
               ("+", ("call", "first", ()), ("call", "first", (1,))), ("+", ("call", "first", (1,)), ("call", "first", ())))
        for expression, kept in [(one, True) for one in good] + [(one, False) for one in bad]:
            for statement in self.statements(expression):
                for change in ({"body": (statement,)}, {"procedures": (("turn", ()), ("b", nested(3, statement)))}):
                    programs = (first, second, program(**change), program(name="later", given=(), procedures=(), body=()))
                    if kept:
                        self.assertEqual(Library(programs).programs, programs)
                    else:
                        self.assertEqual(told(Library, programs), broken(2, 7), expression)

    def test_rule_9(self):
        self.kept(body=(("fail",),) * 23)
        self.broken(9, body=(("fail",),) * 24)
        self.kept(body=(("while", 1, (("if", 1, (("pick", 1, ((("stop", 0),),) * 5),), (("set", "x", 1),) * 5),)),) + (("fail",),) * 9)
        self.broken(9, body=(("while", 1, (("if", 1, (("pick", 1, ((("stop", 0),),) * 5),), (("set", "x", 1),) * 5),)),) + (("fail",),) * 11)
        unused = (("turn", (("fail",),) * 40),)
        self.kept(procedures=unused, body=(("fail",),) * 20)
        self.kept(procedures=(("a", (("fail",),) * 11),), body=(("do", "a"), ("do", "a"), ("stop", 0)))
        self.broken(9, procedures=(("a", (("fail",),) * 11),), body=(("do", "a"), ("do", "a"), ("stop", 0), ("stop", 0)))
        self.kept(procedures=(("a", (("do", "b"),) * 3), ("b", (("while", 0, (("fail",),)),))), body=(("while", 0, (("do", "a"),) * 3),) + (("fail",),) * 4)
        self.broken(9, procedures=(("a", (("do", "b"),) * 3), ("b", (("while", 0, (("fail",),)),))), body=(("while", 0, (("do", "a"),) * 3),) + (("fail",),) * 5)
        self.kept(procedures=(("a", (("do", "b"),) * 19), ("b", (("do", "c"),) * 19), ("c", ())), body=(("do", "a"),) * 19)
        explosion = (("a", (("do", "b"),) * 15), ("b", (("do", "c"),) * 15), ("c", (("do", "d"),) * 14), ("d", (("fail",),)))
        self.broken(9, procedures=explosion, body=(("do", "a"),) * 15)

    def test_the_least_rule_of_the_first_program(self):
        breaks = {
            1: ("name", "Bad"), 2: ("given", (("Q", 2),)), 3: ("answers", 10), 4: ("procedures", (("end", ()),)),
            5: ("body", (("do", "nobody"),)), 6: ("body", (("stop", 1000),)), 7: ("body", (("stop", ("call", "nobody", ())),)),
            8: ("procedures", (("a", (("do", "a"),)),)), 9: ("body", (("fail",),) * 25),
        }
        good = {"name": "p", "given": (), "cells": (), "answers": 1, "procedures": (), "body": ()}
        for count in range(1, 4):
            for rules in itertools.combinations(breaks, count):
                fields = dict(good)
                for rule in reversed(rules):
                    field, worth = breaks[rule]
                    fields[field] = fields[field] + worth if isinstance(worth, tuple) else worth
                expected = ("ProcedureCycle", {"program": 0, "names": ("a",)}) if rules[0] == 8 else broken(0, rules[0])
                self.assertEqual(told(Library, (Program(**fields),)), expected, rules)
        later = Program(**{**good, "name": "Bad"})
        self.assertEqual(told(Library, (program(), program(name="q", body=(("fail",),) * 25), later)), broken(1, 9))
        self.assertEqual(told(Library, (program(name="q", answers=0), later)), broken(0, 3))
        self.assertEqual(told(Library, (program(), later)), broken(1, 1))


class CycleTest(unittest.TestCase):
    def cycle(self, *does):
        """The names of the cycle, if each procedure does these others."""
        procedures = []
        for at, others in enumerate(does):
            body = tuple(nested((at + spot) % 3, ("do", other)) for spot, other in enumerate(others))
            procedures.append((f"q{at}", tuple(statement for part in body for statement in part)))
        found = told(Library, (program(procedures=(), body=()), program(name="b", procedures=tuple(procedures), body=())))
        if isinstance(found, Library):
            return None
        self.assertEqual((found[0], found[1]["program"]), ("ProcedureCycle", 1))
        return found[1]["names"]

    def test_none(self):
        self.assertIsNone(self.cycle(("q1", "q2", "q3"), ("q2", "q3"), ("q3",), ()))
        self.assertIsNone(self.cycle((), ("q0",), ("q1", "q0"), ("q2", "q0", "q0")))

    def test_shortest_and_least(self):
        self.assertEqual(self.cycle(("q0",)), ("q0",))
        self.assertEqual(self.cycle(("q1",), ("q0",), ("q2",)), ("q2",))
        self.assertEqual(self.cycle(("q3",), ("q2",), ("q1",), ("q0",)), ("q0", "q3"))
        self.assertEqual(self.cycle((), ("q2", "q3"), ("q3",), ("q1",)), ("q1", "q3"))
        self.assertEqual(self.cycle(("q1",), ("q2",), ("q0",), ("q3",)), ("q3",))
        self.assertEqual(self.cycle(("q2",), ("q0",), ("q3",), ("q1",)), ("q0", "q2", "q3", "q1"))
        self.assertEqual(self.cycle(("q2", "q1"), ("q3",), ("q3",), ("q0",)), ("q0", "q1", "q3"))
        self.assertEqual(self.cycle(("q3",), ("q0",), ("q1",), ("q2", "q0")), ("q0", "q3"))

    def test_all_ways_of_four_procedures(self):
        names = ("q0", "q1", "q2", "q3")
        circles = [circle for length in range(1, 5) for circle in itertools.permutations(range(4), length)]
        pairs = [(one, two) for one in range(4) for two in range(4)]
        for bits in range(0, 2 ** 16, 37):
            edges = {pair for at, pair in enumerate(pairs) if bits >> at & 1}
            closed = [circle for circle in circles if all(edge in edges for edge in zip(circle, circle[1:] + circle[:1]))]
            expected = tuple(names[at] for at in closed[0]) if closed else None
            does = [tuple(names[two] for two in range(4) if (one, two) in edges) for one in range(4)]
            self.assertEqual(self.cycle(*does), expected)

    def test_undone_procedures_count(self):
        self.assertEqual(self.cycle((), (), ("q2",)), ("q2",))


class LibraryTest(unittest.TestCase):
    def setUp(self):
        self.first = program()
        self.second = program(name="q", body=(("stop", ("call", "p", (1,))),))
        self.library = Library((self.first, self.second))

    def test_field_length_and_iteration(self):
        self.assertEqual(self.library.programs, (self.first, self.second))
        self.assertIs(type(self.library.programs), tuple)
        self.assertEqual((len(self.library), len(Library((self.first,)))), (2, 1))
        for _ in range(2):
            self.assertEqual([one.name for one in self.library], ["p", "q"])
        outer = [(one.name, two.name) for one in self.library for two in self.library]
        self.assertEqual(outer, [("p", "p"), ("p", "q"), ("q", "p"), ("q", "q")])

    def test_membership(self):
        for text, there in (("p", True), ("q", True), ("P", False), ("", False), ("pq", False), ("x", False), ("a b\n", False)):
            self.assertIs(text in self.library, there)
            self.assertIs(text not in self.library, not there)

    def test_named(self):
        self.assertIs(self.library.named("q"), self.second)
        self.assertIs(self.library.named(name="p"), self.first)
        for name in ("", "r", "stop", "P", "turn", "\n"):
            self.assertEqual(told(self.library.named, name), ("UnknownProgram", {"name": name}))

    def test_equality(self):
        self.assertIs(self.library == Library(programs=(program(), self.second)), True)
        self.assertIs(self.library == Library((self.first,)), False)
        self.assertIs(self.library != Library((self.first,)), True)
        self.assertIs(self.library == Library((self.first, program(name="r"))), False)
        for other in (None, "p", (self.first, self.second), self.first, 2):
            self.assertIs(self.library == other, False)

    def test_programs_stand_in_several_libraries_and_stay(self):
        before = [getattr(self.second, field) for field in FIELDS]
        other = Library((program(name="o"), self.first, self.second))
        self.assertIs(other.named("q"), self.library.named("q"))
        self.assertEqual([getattr(self.second, field) for field in FIELDS], before)
        with self.assertRaises(BadLibrary):
            Library((self.second,))
        self.assertEqual([getattr(self.second, field) for field in FIELDS], before)


if __name__ == "__main__":
    unittest.main()
