"""The tours of codes and the graphs of their states: points 43 to 45."""

import itertools
import random
import unittest
from unittest import mock

from sameroom.codes import Code
from sameroom.fingers import across, is_blind
from sameroom.graphs import Graph, graph_across, graph_cycles, graph_ends, graph_onward, graph_tours
from sameroom.plain import all_states, end_number, next_state
from sameroom.rotations import Rotation
from sameroom.slots import finger_count
from sameroom.tours import backward, graph_of, numbered_state, onward, state_number, tour_from
from tests.helping import BARE, COUNT, FLIP, KINDS, STEP, chance_code, givens_of, is_plain, rotations_of, slow_onward, small_codes

# The entry line has many slots, and is entered from itself, too.
BUSY = Code((("g", 2),), (("x", 4, 2), ("y", 3, 1)), 2, (
    ("set", "x", ("mod", ("+", "x", "g"), 4), 2), ("set", "y", ("-", 2, "y"), 2), ("pick", ("+", "x", "y"), (0, 2, 1, 2, 3)), ("stop", "x"),
), (), 2)


def pointers_of(code, rotation):
    return [(state, finger) for state in all_states(code) for finger in rotation.rows[state[0]]]


def all_tours(code, given, rotation):
    """All tours, each from its least pointer on, by the pointers one after the other."""
    tours, met = [], set()
    for pointer in sorted(pointers_of(code, rotation)):
        if pointer not in met:
            tour = list(tour_from(code, given, *pointer, rotation=rotation))
            tours.append(tour)
            met.update(tour)
    return tours


def slow_cycles(code, given):
    """How many cycles there are."""
    found = set()
    for state in all_states(code):
        path = []
        while state is not None and state not in path:
            path.append(state)
            state = next_state(code, given, state)
        if state is not None:
            found.add(min(path[path.index(state):]))
    return len(found)


class PointerTest(unittest.TestCase):
    def check(self, code, given, rotation):
        for state, finger in pointers_of(code, rotation):
            there = onward(code, given, state, finger, rotation=rotation)
            self.assertEqual(there, slow_onward(code, given, (state, finger), rotation))
            self.assertIn(there[1], rotation.rows[there[0][0]])
            self.assertEqual(backward(code, given, *there, rotation=rotation), (state, finger))
            behind = backward(code, given, state, finger, rotation=rotation)
            self.assertEqual(onward(code, given, *behind, rotation=rotation), (state, finger))
            by = rotation.before(state[0], finger)
            self.assertEqual(behind, across(code, given, state, by))

    def test_pointers(self):
        chance = random.Random(43)
        for code in (STEP, COUNT, FLIP, KINDS, BARE, BUSY, *small_codes(143, 60, 200)):
            for rotation in rotations_of(chance, code):
                for given in givens_of(code):
                    self.check(code, given, rotation)

    def test_with_helpers(self):
        chance = random.Random(44)
        for _ in range(20):
            code = chance_code(chance, (("one", chance_code(chance)), ("flip", FLIP)))
            for rotation in rotations_of(chance, code):
                for given in givens_of(code):
                    self.check(code, given, rotation)

    def test_plain_rotation(self):
        for code in (STEP, COUNT, FLIP, KINDS, BARE, BUSY):
            plain = Rotation(code)
            for given in givens_of(code):
                for state, finger in pointers_of(code, plain):
                    for function in (onward, backward):
                        told = function(code, given, state, finger)
                        self.assertEqual(told, function(code, given, state, finger, rotation=None))
                        self.assertEqual(told, function(code, given, state, finger, rotation=plain))
                    self.assertEqual(list(tour_from(code, given, state, finger)), list(tour_from(code, given, state, finger, rotation=plain)))

    def test_rotation_of_an_equal_code(self):
        other = Code(KINDS.given, KINDS.cells, KINDS.answers, KINDS.lines, KINDS.helpers, KINDS.entry)
        turned = Rotation(other, ((1, 0, 2), (3, 1, 0, 2), (1, 0), (0,)))
        self.check(KINDS, (2,), turned)

    def test_documented(self):
        rotation = Rotation(COUNT, ((2, 0, 1), (3, 2, 1, 0), (1, 0)))
        self.assertEqual(onward(COUNT, (), (2, (2,)), 0), ((2, (2,)), 1))
        self.assertEqual(backward(COUNT, (), (0, (0,)), 1), ((1, (1,)), 1))
        self.assertEqual(onward(COUNT, (), (0, (0,)), 0, rotation=rotation), ((1, (1,)), 0))

    def test_arguments(self):
        for function in (onward, backward):
            self.assertEqual(function(finger=2, state=(1, (2,)), given=(), code=COUNT, rotation=None), function(COUNT, (), (1, (2,)), 2))
            with self.assertRaises(TypeError):
                function(COUNT, (), (1, (2,)), 2, None)
            self.assertTrue(is_plain(function(COUNT, (), (1, (2,)), 2)))
        with self.assertRaises(TypeError):
            tour_from(COUNT, (), (1, (2,)), 2, None)
        self.assertEqual(list(tour_from(rotation=None, finger=2, state=(1, (2,)), given=(), code=COUNT)), list(tour_from(COUNT, (), (1, (2,)), 2)))
        self.assertTrue(is_plain(tuple(tour_from(COUNT, (), (1, (2,)), 2))))


class TourTest(unittest.TestCase):
    def check(self, code, given, rotation):
        tours = all_tours(code, given, rotation)
        self.assertEqual(sorted(pointer for tour in tours for pointer in tour), sorted(pointers_of(code, rotation)))
        ends = [state for state in all_states(code) if end_number(code, given, state) is not None]
        self.assertEqual(len(tours), len(ends) + 2 * slow_cycles(code, given))
        for tour in tours:
            self.assertLessEqual(len([state for state, finger in tour if finger == 0 and state in ends]), 1)
            for at in range(0, len(tour), 5):
                self.assertEqual(list(tour_from(code, given, *tour[at], rotation=rotation)), tour[at:] + tour[:at])
        for end in ends:
            component = {pointer[0] for tour in tours for pointer in tour if (end, 0) in tour}
            fingers = [(state, finger) for state in component for finger in rotation.rows[state[0]]]
            tour = [tour for tour in tours if (end, 0) in tour][0]
            self.assertEqual(sorted(tour), sorted(fingers))
            # Nothing else leads to this end.
            self.assertTrue(all(next_state(code, given, state) not in component for state in all_states(code) if state not in component))
        return tours

    def test_tours(self):
        chance = random.Random(45)
        for code in (STEP, COUNT, FLIP, KINDS, BARE, *small_codes(145, 40, 200)):
            for rotation in rotations_of(chance, code):
                for given in givens_of(code):
                    self.check(code, given, rotation)

    def test_busy(self):
        chance = random.Random(46)
        for rotation in rotations_of(chance, BUSY):
            for given in givens_of(BUSY):
                self.check(BUSY, given, rotation)

    def test_with_helpers(self):
        chance = random.Random(47)
        never = Code((), (), 1, (("pick", 0, (0,)),))
        for _ in range(15):
            code = chance_code(chance, (("never", never), ("one", chance_code(chance))))
            for given in givens_of(code):
                self.check(code, given, chance.choice(rotations_of(chance, code)))

    def test_documented(self):
        self.assertEqual(list(tour_from(FLIP, (), (0, (0,)), 1)), [
            ((0, (0,)), 1), ((0, (0,)), 2), ((0, (0,)), 3), ((0, (1,)), 1), ((0, (1,)), 2),
        ])
        turned = Rotation(FLIP, ((0, 2, 1, 3),))
        self.assertEqual(list(tour_from(FLIP, (), (0, (0,)), 1, rotation=turned)), [
            ((0, (0,)), 1), ((0, (0,)), 3), ((0, (1,)), 2), ((0, (0,)), 2),
        ])

    def test_unused_fingers_left_out(self):
        # Line 1 is reached from x = 0 alone: its finger 2 is blind everywhere.
        lean = Rotation(STEP, ((1, 0), (1, 0)))
        self.assertEqual(list(tour_from(STEP, (), (0, (0,)), 1, rotation=lean)), [
            ((0, (0,)), 1), ((0, (0,)), 0), ((1, (1,)), 0),  ((1, (1,)), 1),
        ])

    def test_without_the_blind_fingers(self):
        """Point 45: the tours of the code in the plain rotation are those of its graph."""
        for code in (STEP, COUNT, FLIP, KINDS, BARE, BUSY, *small_codes(45, 40, 200)):
            rotation = Rotation(code)
            for given in givens_of(code):
                graph = graph_of(code, given)
                told = []
                for tour in all_tours(code, given, rotation):
                    told.append([self.graph_pointer(code, given, *pointer) for pointer in tour])
                    told[-1] = [pointer for pointer in told[-1] if pointer is not None]
                told = [tour for tour in told if tour]
                turned = sorted(tuple(tour[tour.index(min(tour)):] + tour[:tour.index(min(tour))]) for tour in told)
                self.assertEqual(tuple(turned), graph_tours(graph))

    def graph_pointer(self, code, given, state, finger):
        """The pointer of the graph that a pointer of the code is, or None for a blind finger from 1 on."""
        number = state_number(code, state)
        if finger == 0:
            return (number, 0)
        if is_blind(code, given, state, finger):
            return None
        return (number, sum(not is_blind(code, given, state, other) for other in range(1, finger + 1)))


class GeneratorTest(unittest.TestCase):
    def test_arguments_are_looked_at_late(self):
        tour = tour_from(None, None, None, None, rotation=None)
        self.assertIs(iter(tour), tour)
        with self.assertRaises((TypeError, AttributeError)):
            list(tour)

    def test_each_pointer_when_it_is_asked_for(self):
        asked = []
        ask = Code.line_result

        def asking(code, given, state):
            asked.append(state)
            return ask(code, given, state)

        lines = tuple(("set", "x", ("mod", ("+", "x", 1), 8), (line + 1) % 24) for line in range(24))
        code = Code((), (("x", 8, 0), ("y", 8, 0)), 1, lines)
        with mock.patch.object(Code, "line_result", asking):
            tour = tour_from(code, (), (0, (0, 0)), 0)
            self.assertEqual(asked, [])
            for many, pointer in enumerate(itertools.islice(tour, 9)):
                self.assertLessEqual(len(asked), many)
        self.assertEqual(pointer, ((1, (1, 0)), 0))

    def test_two_at_once(self):
        both = [tour_from(COUNT, (), (0, (0,)), 1), tour_from(COUNT, (), (2, (2,)), 0), tour_from(COUNT, (), (2, (1,)), 0)]
        alone = [list(tour_from(COUNT, (), (0, (0,)), 1)), list(tour_from(COUNT, (), (2, (2,)), 0)), list(tour_from(COUNT, (), (2, (1,)), 0))]
        mixed = [pointer for pointers in itertools.zip_longest(*both) for pointer in pointers if pointer is not None]
        self.assertEqual(mixed, [pointer for pointers in itertools.zip_longest(*alone) for pointer in pointers if pointer is not None])


class NumberTest(unittest.TestCase):
    def test_numbers(self):
        for code in (STEP, COUNT, FLIP, KINDS, BARE, BUSY, *small_codes(146, 40, 200)):
            for number, state in enumerate(all_states(code)):
                self.assertEqual(state_number(code, state), number)
                self.assertEqual(numbered_state(code, number), state)
            self.assertEqual(number + 1, code.state_count)

    def test_documented(self):
        other = Code((), (("x", 3, 0), ("y", 2, 0)), 1, (("set", "y", ("-", 1, "y"), 1), ("stop", 0)))
        self.assertEqual((state_number(other, (1, (2, 1))), numbered_state(other, 4)), (11, (0, (2, 0))))

    def test_arguments(self):
        self.assertEqual(state_number(state=(1, (2,)), code=COUNT), 5)
        self.assertEqual(numbered_state(number=5, code=COUNT), (1, (2,)))
        self.assertTrue(is_plain((state_number(COUNT, (1, (2,))), numbered_state(COUNT, 5))))


class GraphTest(unittest.TestCase):
    def test_graphs(self):
        for code in (STEP, COUNT, FLIP, KINDS, BARE, BUSY, *small_codes(147, 40, 200)):
            states = list(all_states(code))
            for given in givens_of(code):
                graph = graph_of(code, given)
                self.assertIs(type(graph), Graph)
                nexts = tuple(None if after is None else states.index(after) for after in [next_state(code, given, state) for state in states])
                self.assertEqual((graph.nexts, graph.rotation), (nexts, Graph(nexts).rotation))
                self.assertEqual([states[end] for end in graph_ends(graph)],
                                 [state for state in states if end_number(code, given, state) is not None])
                self.assertEqual(len(graph_cycles(graph)), slow_cycles(code, given))

    def test_across(self):
        """The finger of a slot that is not blind is the finger that points at the same predecessor."""
        for code in (COUNT, FLIP, KINDS, BUSY):
            for given in givens_of(code):
                graph = graph_of(code, given)
                for number, state in enumerate(all_states(code)):
                    sighted = [finger for finger in range(1, finger_count(code, state[0])) if not is_blind(code, given, state, finger)]
                    for finger, slot in enumerate(sighted):
                        there, _ = across(code, given, state, slot)
                        self.assertEqual(graph_across(graph, number, finger + 1), (state_number(code, there), 0))

    def test_documented(self):
        self.assertEqual(graph_of(COUNT, ()).nexts, (4, 5, 3, 0, 1, 8, None, None, None))
        self.assertEqual(graph_of(given=(), code=COUNT).nexts, graph_of(COUNT, ()).nexts)
        self.assertEqual(graph_onward(graph_of(COUNT, ()), 8, 0), (8, 1))

    def test_largest(self):
        lines = tuple(("set", "x", ("mod", ("+", "x", 1), 8), (line + 1) % 24) for line in range(24))
        code = Code((), (("x", 8, 0), ("y", 8, 0)), 1, lines)
        graph = graph_of(code, ())
        self.assertEqual(len(graph.nexts), 1536)
        self.assertEqual(len(graph_cycles(graph)), 64)
        self.assertEqual(len(all_tours(code, (), Rotation(code))), 128)


if __name__ == "__main__":
    unittest.main()
