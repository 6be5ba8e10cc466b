"""The plain machine: points 25 and 30 to 32."""

import inspect
import random
import unittest

from sameroom.codes import Code, started
from sameroom.plain import (
    all_states, cycle_from, describe_outcome, end_number, next_state, outcome, path_to, run_states, start_state,
)
from tests.helping import chance_code, givens_of, is_plain, slow_step

COUNT = Code((), (("x", 3, 0),), 3, (
    ("set", "x", ("mod", ("+", "x", 1), 3), 1), ("pick", ("=", "x", 2), (0, 2)), ("stop", "x"),
))
FLIP = Code((), (("x", 2, 0),), 1, (("set", "x", ("-", 1, "x"), 0),))
# From 0 and 1 it runs into a cycle of 2, 3 and 4; 5 leads there too; 6 and 7 end.
RHO = Code((), (("x", 8, 1),), 8, (
    ("pick", (">", "x", 5), (1, 2)), ("set", "x", ("+", ("mod", ("-", "x", 1), 3), 2), 0), ("stop", "x"),
))


class StatesTest(unittest.TestCase):
    def test_all_states(self):
        self.assertEqual(list(all_states(FLIP)), [(0, (0,)), (0, (1,))])
        code = Code((("g", 2),), (("x", 2, 1), ("y", 3, 2)), 1, (("fail",), ("fail",)), (), 1)
        states = list(all_states(code))
        self.assertEqual(states, [(line, (x, y)) for line in range(2) for x in range(2) for y in range(3)])
        self.assertEqual((states, len(states)), (sorted(states), code.state_count))
        self.assertEqual(list(all_states(Code((), (), 1, (("fail",),) * 3))), [(0, ()), (1, ()), (2, ())])
        large = Code((), (("x", 8, 0), ("y", 8, 0)), 1, (("fail",),) * 24)
        self.assertEqual(len(list(all_states(code=large))), 1536)
        self.assertTrue(is_plain(tuple(all_states(large))))

    def test_it_is_a_generator(self):
        states = all_states(RHO)
        self.assertTrue(inspect.isgenerator(states))
        self.assertEqual([next(states), next(states)], [(0, (0,)), (0, (1,))])
        other = all_states(RHO)
        self.assertEqual(next(other), (0, (0,)))
        self.assertEqual(outcome(RHO, ()), 0)
        self.assertEqual(next(states), (0, (2,)))
        self.assertEqual(next(all_states(FLIP)), (0, (0,)))
        self.assertEqual(len(list(states)) + 3, RHO.state_count)
        self.assertEqual(len(list(other)) + 1, RHO.state_count)

    def test_a_generator_looks_later(self):
        states = all_states(None)
        with self.assertRaises(AttributeError):
            next(states)

    def test_start_state(self):
        self.assertEqual(start_state(COUNT), (0, (0,)))
        code = Code((("g", 2),), (("x", 2, 1), ("y", 3, 2)), 1, (("fail",), ("fail",)), (), 1)
        self.assertEqual(start_state(code=code), (1, (1, 2)))
        self.assertEqual(start_state(Code((), (), 1, (("fail",),))), (0, ()))
        self.assertTrue(is_plain(start_state(code)))


class StepTest(unittest.TestCase):
    def setUp(self):
        self.code = Code((("g", 8),), (("x", 3, 0), ("y", 2, 1)), 2, (
            ("set", "x", ("-", "g", 2), 2), ("pick", ("-", "g", 2), (2, 0, 3)), ("stop", ("-", "g", 2)), ("fail",),
            ("set", "y", ("-", "g", "x"), 4),
        ))

    def told(self, line, given, values=(1, 0)):
        step = (next_state(self.code, (given,), (line, values)), end_number(self.code, (given,), (line, values)))
        self.assertTrue(is_plain(step))
        return step

    def test_set(self):
        self.assertEqual([self.told(0, given) for given in range(1, 6)], [
            (None, 3), ((2, (0, 0)), None), ((2, (1, 0)), None), ((2, (2, 0)), None), (None, 3),
        ])
        self.assertEqual([self.told(4, given, (2, 1)) for given in range(1, 5)], [
            (None, 7), ((4, (2, 0)), None), ((4, (2, 1)), None), (None, 7),
        ])

    def test_pick(self):
        self.assertEqual([self.told(1, given) for given in range(0, 6)], [
            (None, 4), (None, 4), ((2, (1, 0)), None), ((0, (1, 0)), None), ((3, (1, 0)), None), (None, 4),
        ])

    def test_stop_and_fail(self):
        self.assertEqual([self.told(2, given) for given in range(0, 6)],
                         [(None, 5), (None, 5), (None, 1), (None, 2), (None, 5), (None, 5)])
        self.assertEqual(self.told(3, 0), (None, 6))

    def test_by_name(self):
        self.assertEqual(next_state(code=self.code, given=(2,), state=(0, (1, 1))), (2, (0, 1)))
        self.assertEqual(end_number(code=self.code, given=(2,), state=(3, (1, 1))), 6)

    def test_helpers_are_asked(self):
        helper = Code((("k", 2),), (), 2, (("pick", "k", (0, 1)), ("stop", 1)))
        code = Code((), (("x", 4, 0),), 1, (
            ("set", "x", ("+", 1, ("call", "x", (("call", "x", (0,)),))), 1),
            ("set", "x", ("+", 1, ("call", "x", (("-", ("call", "x", (1,)), 1),))), 0),
        ), (("x", helper),))
        self.assertEqual(next_state(code, (), (0, (3,))), (1, (1,)))
        self.assertEqual(next_state(code, (), (1, (1,))), (0, (3,)))
        self.assertEqual(next_state(Code((), (("x", 2, 0),), 1, (("set", "x", ("+", 1, ("call", "h", (2,))), 0),), (("h", helper),)),
                                    (), (0, (1,))), (0, (0,)))


class OutcomeTest(unittest.TestCase):
    def test_describe(self):
        self.assertEqual([describe_outcome(COUNT, number) for number in range(7)], [
            ("never",), ("answer", 0), ("answer", 1), ("answer", 2), ("fault", 0), ("fault", 1), ("fault", 2),
        ])
        self.assertEqual(describe_outcome(code=FLIP, number=1), ("answer", 0))
        self.assertEqual(describe_outcome(FLIP, 2), ("fault", 0))
        self.assertTrue(is_plain(tuple(describe_outcome(COUNT, number) for number in range(7))))

    def test_every_ending(self):
        code = Code((("g", 8),), (("x", 2, 0),), 3, (
            ("pick", "g", (1, 2, 3, 4, 5, 6)), ("stop", "g"), ("stop", 2), ("set", "x", "g", 0), ("pick", -1, (0,)), ("fail",),
            ("set", "x", ("-", 1, "x"), 6),
        ))
        numbers = [outcome(code, (given,)) for given in range(8)]
        self.assertEqual(numbers, [1, 3, 7, 8, 9, 0, 4, 4])
        self.assertEqual([describe_outcome(code, number) for number in numbers], [
            ("answer", 0), ("answer", 2), ("fault", 3), ("fault", 4), ("fault", 5), ("never",), ("fault", 0), ("fault", 0),
        ])
        self.assertEqual([code.call_value((given,)) for given in range(8)], numbers)
        self.assertEqual(outcome(code, (1,), (1, (0,))), 2)
        self.assertEqual(outcome(code, (3,), (1, (0,))), 5)
        self.assertEqual(outcome(code=code, given=(0,), state=None), 1)
        self.assertEqual(outcome(code=code, given=(0,), state=(6, (1,))), 0)


class RunTest(unittest.TestCase):
    def test_documented(self):
        self.assertEqual(run_states(COUNT, (), (1, (1,))), ((1, (1,)), (0, (1,)), (1, (2,)), (2, (2,))))
        self.assertEqual(describe_outcome(COUNT, outcome(COUNT, ())), ("answer", 2))
        self.assertEqual(cycle_from(FLIP, (), (0, (0,))), ((0, (0,)), (0, (1,))))
        self.assertEqual(path_to(COUNT, (), (0, (1,))), ((0, (0,)), (1, (1,)), (0, (1,))))

    def test_on_the_way_to_a_cycle(self):
        one, two, three, four = ((0, (value,)) for value in (1, 2, 3, 4))
        between = [(1, (value,)) for value in range(5)]
        cycle = (two, between[2], three, between[3], four, between[4])
        code = RHO
        self.assertEqual(run_states(code, (), one), (one, between[1], *cycle))
        self.assertEqual(cycle_from(code, (), one), cycle)
        self.assertEqual(cycle_from(code, (), between[3]), (between[3], four, between[4], two, between[2], three))
        self.assertEqual(path_to(code, (), three), (one, between[1], two, between[2], three))
        self.assertEqual(path_to(code, (), one), (one,))
        for never in ((0, (0,)), (0, (5,)), (1, (5,)), (2, (2,)), (2, (7,))):
            self.assertEqual(path_to(code, (), never), ())
        self.assertEqual(cycle_from(code, (), (0, (7,))), ())
        self.assertEqual(run_states(code, (), (0, (7,))), ((0, (7,)), (2, (7,))))
        self.assertEqual([outcome(code, (), (0, (value,))) for value in range(8)], [0, 0, 0, 0, 0, 0, 7, 8])

    def test_one_state(self):
        stay = Code((), (), 1, (("pick", 0, (0,)),))
        self.assertEqual(run_states(stay, (), (0, ())), ((0, ()),))
        self.assertEqual(cycle_from(stay, (), (0, ())), ((0, ()),))
        self.assertEqual((outcome(stay, ()), path_to(stay, (), (0, ()))), (0, ((0, ()),)))
        end = Code((), (), 1, (("stop", 0),))
        self.assertEqual((run_states(end, (), (0, ())), cycle_from(end, (), (0, ())), outcome(end, ())), (((0, ()),), (), 1))

    def test_by_name(self):
        self.assertEqual(run_states(code=FLIP, given=(), state=(0, (1,))), ((0, (1,)), (0, (0,))))
        self.assertEqual(cycle_from(code=FLIP, given=(), state=(0, (1,))), ((0, (1,)), (0, (0,))))
        self.assertEqual(path_to(code=FLIP, given=(), state=(0, (1,))), ((0, (0,)), (0, (1,))))

    def check(self, code, given):
        for state in all_states(code):
            step = (next_state(code, given, state), end_number(code, given, state))
            self.assertEqual(step, slow_step(code, given, state))
            met, now, number = [], state, None
            while now is not None and now not in met:
                met.append(now)
                now, number = slow_step(code, given, now)
            cycle = tuple(met[met.index(now):]) if now is not None else ()
            self.assertEqual(run_states(code, given, state), tuple(met))
            self.assertEqual(cycle_from(code, given, state), cycle)
            self.assertEqual(outcome(code, given, state), number or 0)
            self.assertEqual(path_to(started(code, state), given, met[-1]), tuple(met))
            path = path_to(code, given, state)
            run = run_states(code, given, start_state(code))
            self.assertEqual(path, run[:run.index(state) + 1] if state in run else ())
            self.assertTrue(is_plain((*step, met[0], cycle, path, run, outcome(code, given, state))))
        self.assertEqual(outcome(code, given), outcome(code, given, start_state(code)))
        self.assertEqual(code.call_value(given), outcome(code, given))

    def test_by_chance(self):
        chance = random.Random(32)
        for _ in range(150):
            code = chance_code(chance)
            for given in givens_of(code):
                self.check(code, given)

    def test_by_chance_with_helpers(self):
        chance = random.Random(33)
        for _ in range(60):
            one = chance_code(chance)
            two = chance_code(chance, (("a", one),))
            code = chance_code(chance, (("one", one), ("two", two)))
            for given in givens_of(code):
                self.check(code, given)

    def test_largest(self):
        cells = (("x", 8, 0), ("y", 8, 0))
        lines = tuple(("pick", ("=", "x", 7), (line + 1, line + 1)) for line in range(22)) + (
            ("set", "x", ("mod", ("+", "x", 1), 8), 23), ("set", "y", ("mod", ("+", "y", ("=", "x", 0)), 8), 0),
        )
        code = Code((), cells, 9, lines)
        self.assertEqual((code.state_count, outcome(code, ())), (1536, 0))
        self.assertEqual(len(cycle_from(code, (), (0, (0, 0)))), 1536)
        self.assertEqual(len(path_to(code, (), (23, (0, 7)))), 1536)

    def test_nothing_changes(self):
        fields = ("given", "cells", "answers", "lines", "helpers", "entry")
        before = [getattr(COUNT, field) for field in fields]
        first = [outcome(COUNT, (), state) for state in all_states(COUNT)]
        again = [outcome(COUNT, (), state) for state in all_states(COUNT)]
        self.assertEqual(first, again)
        self.assertEqual([getattr(COUNT, field) for field in fields], before)


if __name__ == "__main__":
    unittest.main()
