"""Crossing edges: point 40."""

import random
import unittest

from sameroom.codes import Code
from sameroom.fingers import across, is_blind, predecessors
from sameroom.plain import all_states, next_state
from sameroom.slots import finger_count, finger_slot, slot_finger
from tests.helping import chance_code, givens_of, is_plain, slow_step

COUNT = Code((), (("x", 3, 0),), 3, (
    ("set", "x", ("mod", ("+", "x", 1), 3), 1), ("pick", ("=", "x", 2), (0, 2)), ("stop", "x"),
))
# All values lead to 0, and line 1 leads to line 0 by three arms.
ZERO = Code((("g", 6),), (("x", 4, 0), ("y", 2, 0)), 1, (("set", "x", 0, 1), ("pick", "g", (0, 1, 0, 2, 0)), ("fail",)))


def slow_across(code, given, state, finger):
    """The pointer across, straight from the words of the document."""
    line, values = state
    names = [name for name, _, _ in code.cells]
    slot = finger_slot(code, line, finger)
    if finger == 0:
        after, _ = slow_step(code, given, state)
        if after is None:
            return (state, 0)
        if code.lines[line][0] == "set":
            return (after, slot_finger(code, after[0], (line, 0, values[names.index(code.lines[line][1])])))
        # The index that is picked, whatever line it leads to: the same pick with targets that tell it.
        many = len(code.lines[line][2])
        lines = [*code.lines[:line], ("pick", code.lines[line][1], tuple(range(many))), *code.lines[line + 1:], *[("fail",)] * 6]
        return (after, slot_finger(code, after[0], (line, slow_step(Told(code, lines), given, state)[0][0], 0)))
    if slot is None:
        return (state, finger)
    source, arm, old = slot
    if code.lines[source][0] == "set":
        at = names.index(code.lines[source][1])
        origin = (source, values[:at] + (old,) + values[at + 1:])
        return (origin, 0) if slow_step(code, given, origin)[0] == state else (state, finger)
    origin = (source, values)
    after = slow_across(code, given, origin, 0)
    return (origin, 0) if after != (origin, 0) and finger_slot(code, after[0][0], after[1]) == slot else (state, finger)


class Told:
    """What a code tells, with other lines."""

    def __init__(self, code, lines):
        self.given, self.cells, self.answers, self.helpers = code.given, code.cells, code.answers, code.helpers
        self.lines = lines


class AcrossTest(unittest.TestCase):
    def test_documented(self):
        self.assertEqual(across(COUNT, (), (1, (2,)), 2), ((0, (1,)), 0))
        self.assertEqual(predecessors(COUNT, (), (1, (2,))), ((0, (1,)),))
        blind = [is_blind(COUNT, (), state, finger) for state, finger in (((1, (2,)), 1), ((1, (2,)), 2), ((0, (0,)), 1), ((2, (0,)), 0))]
        self.assertEqual(blind, [True, False, True, True])

    def test_ahead(self):
        self.assertEqual(across(COUNT, (), (0, (2,)), 0), ((1, (0,)), 3))
        self.assertEqual(across(COUNT, (), (1, (2,)), 0), ((2, (2,)), 1))
        self.assertEqual(across(COUNT, (), (1, (1,)), 0), ((0, (1,)), 2))
        self.assertEqual(across(COUNT, (), (2, (1,)), 0), ((2, (1,)), 0))

    def test_arms_with_one_target(self):
        # Line 0 has the fingers 0, the entry, and the arms 0, 2 and 4 of line 1.
        for given, finger in ((0, 2), (2, 3), (4, 4)):
            self.assertEqual(across(ZERO, (given,), (1, (3, 1)), 0), ((0, (3, 1)), finger))
            for other in (2, 3, 4):
                expected = ((1, (3, 1)), 0) if other == finger else ((0, (3, 1)), other)
                self.assertEqual(across(ZERO, (given,), (0, (3, 1)), other), expected)
                self.assertEqual(is_blind(ZERO, (given,), (0, (3, 1)), other), other != finger)
        for given in (1, 3, 5):
            self.assertEqual([across(ZERO, (given,), (0, (3, 1)), finger) for finger in (2, 3, 4)],
                             [((0, (3, 1)), finger) for finger in (2, 3, 4)])

    def test_a_state_that_leads_to_itself(self):
        self.assertEqual(across(ZERO, (1,), (1, (0, 1)), 0), ((1, (0, 1)), 5))
        self.assertEqual(across(ZERO, (1,), (1, (0, 1)), 5), ((1, (0, 1)), 0))
        self.assertIs(is_blind(ZERO, (1,), (1, (0, 1)), 5), False)

    def test_many_predecessors_and_none(self):
        self.assertEqual(predecessors(ZERO, (0,), (1, (0, 1))), tuple((0, (x, 1)) for x in range(4)))
        self.assertEqual(predecessors(ZERO, (1,), (1, (0, 1))), tuple((0, (x, 1)) for x in range(4)) + ((1, (0, 1)),))
        self.assertEqual(predecessors(ZERO, (1,), (1, (2, 1))), ((1, (2, 1)),))
        self.assertEqual(predecessors(ZERO, (2,), (1, (2, 1))), ())
        self.assertEqual(predecessors(ZERO, (2,), (2, (0, 0))), ())
        self.assertEqual(predecessors(ZERO, (3,), (2, (0, 0))), ((1, (0, 0)),))

    def test_entry_finger_is_blind(self):
        for x in range(4):
            self.assertEqual(across(ZERO, (0,), (0, (x, 0)), 1), ((0, (x, 0)), 1))
            self.assertIs(is_blind(ZERO, (0,), (0, (x, 0)), 1), True)

    def test_faults_are_blind_ahead(self):
        for state, given in (((1, (0, 0)), 5), ((2, (1, 1)), 0)):
            self.assertEqual(across(ZERO, (given,), state, 0), (state, 0))
            self.assertIs(is_blind(ZERO, (given,), state, 0), True)
        code = Code((), (("x", 2, 0),), 1, (("set", "x", ("+", "x", 1), 0),))
        self.assertEqual([across(code, (), (0, (1,)), finger) for finger in range(4)],
                         [((0, (1,)), 0), ((0, (1,)), 1), ((0, (0,)), 0), ((0, (1,)), 3)])

    def test_by_name(self):
        self.assertEqual(across(code=COUNT, given=(), state=(1, (2,)), finger=2), ((0, (1,)), 0))
        self.assertIs(is_blind(code=COUNT, given=(), state=(1, (2,)), finger=2), False)
        self.assertEqual(predecessors(code=COUNT, given=(), state=(1, (2,))), ((0, (1,)),))

    def check(self, code, given):
        states = list(all_states(code))
        edges = 0
        for state in states:
            for finger in range(finger_count(code, state[0])):
                pointer = across(code, given, state, finger)
                self.assertEqual(pointer, slow_across(code, given, state, finger))
                self.assertEqual(across(code, given, *pointer), (state, finger))
                blind = is_blind(code, given, state, finger)
                self.assertIs(blind, pointer == (state, finger))
                self.assertTrue(is_plain(pointer))
                edges += not blind
            before = predecessors(code, given, state)
            self.assertEqual(before, tuple(other for other in states if slow_step(code, given, other)[0] == state))
            self.assertTrue(is_plain(before))
            ahead = is_blind(code, given, state, 0)
            self.assertIs(ahead, next_state(code, given, state) is None)
        self.assertEqual(edges, 2 * len([state for state in states if slow_step(code, given, state)[0] is not None]))

    def test_by_chance(self):
        chance = random.Random(40)
        for _ in range(60):
            code = chance_code(chance)
            for given in givens_of(code):
                self.check(code, given)

    def test_by_chance_with_helpers(self):
        chance = random.Random(41)
        for _ in range(20):
            one = chance_code(chance)
            code = chance_code(chance, (("one", one), ("two", chance_code(chance, (("one", one),)))))
            for given in givens_of(code):
                self.check(code, given)


if __name__ == "__main__":
    unittest.main()
