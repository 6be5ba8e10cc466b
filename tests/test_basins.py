"""Basins: point 66."""

import itertools
import random
import unittest
from unittest import mock

from sameroom.basins import components, states_with_outcome
from sameroom.codes import Code
from sameroom.lookback import origins
from sameroom.plain import all_states, cycle_from, next_state, outcome, run_states
from tests.helping import BARE, COUNT, FLIP, KINDS, LARGEST, STEP, chance_code, givens_of, is_plain, small_codes

# Cycles with ways into them, a state that is its own next, and ends.
RINGS = Code((("g", 2),), (("x", 8, 0),), 1, (
    ("pick", ("=", "x", 7), (1, 2)), ("set", "x", ("mod", ("+", ("*", "x", "x"), 1), 8), 0), ("pick", "g", (2, 3)), ("stop", ("-", "x", 7)),
))


def head_of(code, given, state):
    """The end to which a run comes, or the least state of its cycle."""
    return min(cycle_from(code, given, state) or run_states(code, given, state)[-1:])


def slow_components(code, given):
    heads = {}
    for state in all_states(code):
        heads.setdefault(head_of(code, given, state), []).append(state)
    return {head: (outcome(code, given, head), states) for head, states in heads.items()}


class BasinTest(unittest.TestCase):
    def check(self, code, given):
        told = slow_components(code, given)
        self.assertEqual(components(code, given), tuple((head, told[head][0], len(told[head][1])) for head in sorted(told)))
        self.assertEqual(sum(count for _, _, count in components(code, given)), code.state_count)
        for number in range(1 + code.answers + len(code.lines)):
            expected = []
            for head in sorted(told):
                if told[head][0] == number:
                    expected += [head, *origins(code, given, head)]
            self.assertEqual(list(states_with_outcome(code, given, number)), expected)
            self.assertEqual(sorted(expected), [state for state in all_states(code) if outcome(code, given, state) == number])
        return told

    def test_codes(self):
        for code in (STEP, COUNT, FLIP, KINDS, BARE, RINGS):
            for given in givens_of(code):
                self.check(code, given)

    def test_by_chance(self):
        lengths = set()
        for code in small_codes(66, 100, 80):
            for given in givens_of(code):
                for head in self.check(code, given):
                    lengths.add(len(cycle_from(code, given, head)))
        self.assertTrue(lengths >= {0, 1, 2, 3}, lengths)

    def test_with_helpers(self):
        chance = random.Random(67)
        for _ in range(20):
            code = chance_code(chance, (("one", chance_code(chance)), ("flip", FLIP)))
            for given in givens_of(code):
                self.check(code, given)

    def test_documented(self):
        self.assertEqual(components(COUNT, ()), (((2, (0,)), 1, 1), ((2, (1,)), 2, 1), ((2, (2,)), 3, 7)))
        self.assertEqual(list(states_with_outcome(COUNT, (), 3)), [
            (2, (2,)), (1, (2,)), (0, (1,)), (1, (1,)), (0, (0,)), (1, (0,)), (0, (2,)),
        ])
        self.assertEqual(components(FLIP, ()), (((0, (0,)), 0, 2),))

    def test_numbers_that_no_state_has(self):
        self.assertEqual([list(states_with_outcome(COUNT, (), number)) for number in (0, 4, 5, 6)], [[]] * 4)
        self.assertEqual(list(states_with_outcome(FLIP, (), 1)), [])

    def test_faults(self):
        code = Code((), (("x", 2, 0),), 1, (("set", "x", ("+", "x", 1), 1), ("pick", ("-", 0, "x"), (0,)), ("stop", 9), ("fail",)))
        self.assertEqual([list(states_with_outcome(code, (), number)) for number in range(6)], [
            [], [], [(0, (1,))], [(1, (1,)), (0, (0,)), (1, (0,))], [(2, (0,)), (2, (1,))], [(3, (0,)), (3, (1,))],
        ])

    def test_states_that_are_components_of_their_own(self):
        self.assertEqual(components(BARE, ()), (((0, ()), 2, 1),))
        still = Code((), (("x", 3, 0),), 1, (("set", "x", "x", 0), ("fail",)))
        self.assertEqual(components(still, ()), tuple(((0, (x,)), 0, 1) for x in range(3)) + tuple(((1, (x,)), 3, 1) for x in range(3)))
        self.assertEqual(list(states_with_outcome(still, (), 0)), [(0, (0,)), (0, (1,)), (0, (2,))])

    def test_a_head_behind_the_states_that_lead_to_it(self):
        # Line 0 leads to the cycle of the lines 1 and 2; its states are less than the head.
        code = Code((), (("x", 2, 0),), 1, (("pick", 0, (2,)), ("pick", 0, (2,)), ("pick", 0, (1,))))
        self.assertEqual(components(code, ()), (((1, (0,)), 0, 3), ((1, (1,)), 0, 3)))
        self.assertEqual(list(states_with_outcome(code, (), 0)), [
            (1, (0,)), (2, (0,)), (0, (0,)), (1, (1,)), (2, (1,)), (0, (1,)),
        ])

    def test_names_and_kinds(self):
        self.assertEqual(components(given=(), code=COUNT), components(COUNT, ()))
        self.assertEqual(list(states_with_outcome(number=3, given=(), code=COUNT)), list(states_with_outcome(COUNT, (), 3)))
        self.assertTrue(is_plain(components(COUNT, ())))
        self.assertTrue(is_plain(tuple(states_with_outcome(COUNT, (), 3))))

    def test_equal_questions(self):
        first = [components(KINDS, given) for given in givens_of(KINDS)]
        list(states_with_outcome(KINDS, (1,), 2))
        self.assertEqual([components(KINDS, given) for given in givens_of(KINDS)], first)


class GeneratorTest(unittest.TestCase):
    def test_arguments_are_looked_at_late(self):
        told = states_with_outcome(None, None, None)
        self.assertIs(iter(told), told)
        with self.assertRaises((TypeError, AttributeError)):
            list(told)

    def test_each_state_when_it_is_asked_for(self):
        asked = []
        ask = Code.line_result

        def asking(code, given, state):
            asked.append(state)
            return ask(code, given, state)

        wide = Code((), (("x", 8, 0), ("y", 8, 0)), 1, (("fail",),) * 24)
        rings = Code((), (("x", 8, 0), ("y", 8, 0)), 1, tuple(("set", "x", ("mod", ("+", "x", 1), 8), line) for line in range(24)))
        with mock.patch.object(Code, "line_result", asking):
            for code, number, most in ((wide, 2, 6), (rings, 0, 200)):
                asked.clear()
                states = states_with_outcome(code, (), number)
                self.assertEqual(asked, [])
                self.assertEqual(list(itertools.islice(states, 1)), [(0, (0, 0))])
                self.assertLess(len(asked), most)

    def test_two_at_once(self):
        numbers = (3, 1, 3, 2)
        alone = [list(states_with_outcome(COUNT, (), number)) for number in numbers]
        both = [states_with_outcome(COUNT, (), number) for number in numbers]
        mixed = [[] for _ in numbers]
        for states in itertools.zip_longest(*both):
            components(COUNT, ())
            for row, state in zip(mixed, states):
                if state is not None:
                    row.append(state)
        self.assertEqual(mixed, alone)


class QuickTest(unittest.TestCase):
    def test_largest(self):
        for given in givens_of(LARGEST)[::9]:
            number = 1 + given[1] + given[0] // 2
            self.assertEqual(len(set(states_with_outcome(LARGEST, given, number))), 1536)
            self.assertEqual(len(components(LARGEST, given)), 64)

    def test_many_components(self):
        cells = (("x", 8, 0), ("y", 8, 0))
        still = Code((), cells, 1, tuple(("set", "x", "x", line) for line in range(24)))
        stops = Code((), cells, 1, (("stop", 0),) * 24)
        for code, number in ((still, 0), (stops, 1)):
            self.assertEqual(list(states_with_outcome(code, (), number)), list(all_states(code)))
            self.assertEqual(components(code, ()), tuple((state, number, 1) for state in all_states(code)))

    def test_one_ring(self):
        lines = [("set", "x", ("mod", ("+", "x", 1), 8), 1)] + [("pick", 0, (line + 1,)) for line in range(1, 23)]
        lines += [("set", "y", ("mod", ("+", "y", ("=", "x", 0)), 8), 0)]
        code = Code((), (("x", 8, 0), ("y", 8, 0)), 1, tuple(lines))
        states = list(states_with_outcome(code, (), 0))
        self.assertEqual((len(states), states[0], states[1]), (1536, (0, (0, 0)), (23, (0, 7))))
        self.assertEqual(next_state(code, (), states[1]), states[0])


if __name__ == "__main__":
    unittest.main()
