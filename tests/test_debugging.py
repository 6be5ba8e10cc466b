"""The debugger: points 67 to 70."""

import random
import unittest

from sameroom.codes import Code
from sameroom.debugging import Debugger
from sameroom.expressions import value_of
from sameroom.plain import all_states, end_number, outcome, start_state
from sameroom.rotations import Rotation, lean_rotation
from sameroom.slots import finger_count
from sameroom.tours import backward, onward, tour_from
from tests.helping import (
    BARE, COUNT, FLIP, KINDS, LARGEST, STEP, chance_code, chance_expression, givens_of, is_plain, rotations_of, small_codes, told,
)

CODES = (STEP, COUNT, FLIP, KINDS, BARE)
NOWHERE = ("=", "line", 99)


def bad(at):
    return ("BadSnapshot", {"at": at})


def at_pointer(code, given, rotation, pointer):
    debugger = Debugger(code, given, rotation=rotation)
    debugger.go_to(*pointer)
    return debugger


def place_of(debugger):
    return (debugger.state, debugger.finger)


def pointers_of(code, rotation):
    return [(state, finger) for state in all_states(code) for finger in rotation.rows[state[0]]]


def holds(code, given, condition, pointer):
    (line, values), finger = pointer
    names = [name for name, *_ in code.given + code.cells]
    return value_of(condition, {**dict(zip(names, given + values)), "line": line, "finger": finger}, code.helpers) != 0


class MoveTest(unittest.TestCase):
    def check(self, code, given, rotation):
        home = (start_state(code), 1)
        self.assertEqual(place_of(Debugger(code, given, rotation=rotation)), home)
        for pointer in pointers_of(code, rotation):
            debugger = at_pointer(code, given, rotation, pointer)
            self.assertEqual(place_of(debugger), pointer)
            self.assertIsNone(debugger.forward())
            self.assertEqual(place_of(debugger), onward(code, given, *pointer, rotation=rotation))
            self.assertIsNone(debugger.backward())
            self.assertEqual(place_of(debugger), pointer)
            debugger.backward(1)
            self.assertEqual(place_of(debugger), backward(code, given, *pointer, rotation=rotation))
            debugger.forward(1)
            self.assertEqual(place_of(debugger), pointer)
            debugger.go_home()
            self.assertEqual(place_of(debugger), home)

    def test_moves(self):
        chance = random.Random(68)
        for code in (*CODES, *small_codes(68, 40, 60)):
            for rotation in rotations_of(chance, code):
                for given in givens_of(code):
                    self.check(code, given, rotation)

    def test_many_moves(self):
        for code in CODES:
            for rotation in (None, lean_rotation(code)):
                for given in givens_of(code):
                    tour = list(tour_from(code, given, start_state(code), 1, rotation=rotation))
                    for steps in (0, 1, 2, len(tour) - 1, len(tour), len(tour) + 1, 3 * len(tour) + 2):
                        debugger = Debugger(code, given, rotation=rotation)
                        self.assertIsNone(debugger.forward(steps))
                        self.assertEqual(place_of(debugger), tour[steps % len(tour)])
                        self.assertIsNone(debugger.backward(steps))
                        self.assertEqual(place_of(debugger), tour[0])
                        debugger.backward(steps)
                        self.assertEqual(place_of(debugger), tour[-steps % len(tour)])

    def test_most_moves(self):
        debugger = Debugger(LARGEST, (0, 0))
        debugger.forward(20000)
        far = place_of(debugger)
        debugger.backward(20000)
        self.assertEqual(place_of(debugger), ((0, (0, 0)), 1))
        self.assertNotEqual(far, place_of(debugger))

    def test_go_to(self):
        debugger = Debugger(COUNT, ())
        self.assertIsNone(debugger.go_to((1, (2,))))
        self.assertEqual(place_of(debugger), ((1, (2,)), 0))
        self.assertIsNone(debugger.go_to(finger=3, state=(1, (0,))))
        self.assertEqual(place_of(debugger), ((1, (0,)), 3))
        self.assertIsNone(debugger.go_home())
        self.assertEqual(place_of(debugger), ((0, (0,)), 1))

    def test_at_an_end_and_at_a_blind_finger(self):
        debugger = Debugger(BARE, ())
        self.assertEqual(place_of(debugger), ((0, ()), 1))
        debugger.forward()
        self.assertEqual(place_of(debugger), ((0, ()), 0))
        debugger.forward()
        self.assertEqual(place_of(debugger), ((0, ()), 1))
        debugger = at_pointer(STEP, (), None, ((1, (0,)), 1))
        debugger.forward()
        self.assertEqual(place_of(debugger), ((1, (0,)), 2))

    def test_entry_elsewhere(self):
        debugger = Debugger(KINDS, (1,))
        self.assertEqual((debugger.state, debugger.finger, debugger.snapshot()), ((1, (1,)), 1, (1, 1, 1)))

    def test_arguments(self):
        for debugger in (Debugger(code=COUNT, given=(), rotation=None), Debugger(rotation=Rotation(COUNT), given=(), code=COUNT)):
            debugger.forward(steps=3)
            self.assertEqual(place_of(debugger), list(tour_from(COUNT, (), (0, (0,)), 1))[3])
            debugger.backward(steps=2)
            self.assertEqual(place_of(debugger), list(tour_from(COUNT, (), (0, (0,)), 1))[1])
        with self.assertRaises(TypeError):
            Debugger(COUNT, (), None)
        other = Code(KINDS.given, KINDS.cells, KINDS.answers, KINDS.lines, KINDS.helpers, KINDS.entry)
        self.check(KINDS, (2,), Rotation(other, ((1, 0, 2), (3, 1, 0, 2), (1, 0), (0,))))

    def test_kinds(self):
        debugger = Debugger(COUNT, ())
        debugger.forward(5)
        self.assertTrue(is_plain((debugger.state, debugger.finger, debugger.snapshot(), debugger.age(), debugger.outcome())))
        self.assertIs(type(debugger.finger), int)

    def test_state_and_finger_are_only_read(self):
        debugger = Debugger(COUNT, ())
        for name in ("state", "finger"):
            self.assertIsInstance(vars(Debugger)[name], property)
            with self.assertRaises(AttributeError):
                setattr(debugger, name, 0)

    def test_two_debuggers_do_not_disturb_each_other(self):
        one, two = Debugger(COUNT, ()), Debugger(COUNT, ())
        one.forward(7)
        self.assertEqual(place_of(two), ((0, (0,)), 1))
        two.backward(3)
        self.assertEqual(place_of(one), list(tour_from(COUNT, (), (0, (0,)), 1))[7])

    def test_it_keeps_only_its_pointer(self):
        one, two = Debugger(KINDS, (2,)), Debugger(KINDS, (2,))
        one.forward(11)
        one.seek(("=", "finger", 0))
        one.outcome()
        two.go_to(one.state, one.finger)
        self.assertEqual({name: worth for name, worth in vars(one).items() if type(worth) in (list, dict, set)}, {})
        self.assertEqual(vars(one), vars(two))


class SeekTest(unittest.TestCase):
    def slow_seek(self, code, given, rotation, pointer, condition, step):
        """The number of moves and the pointer at which the search ends."""
        here = pointer
        moves = 0
        while True:
            here = step(code, given, *here, rotation=rotation)
            moves += 1
            if holds(code, given, condition, here):
                return moves, here
            if here == pointer:
                return 0, pointer

    def check(self, code, given, rotation, pointer, condition):
        for name, step in (("seek", onward), ("seek_back", backward)):
            debugger = at_pointer(code, given, rotation, pointer)
            moves = getattr(debugger, name)(condition)
            self.assertIs(type(moves), int)
            self.assertEqual((moves, place_of(debugger)), self.slow_seek(code, given, rotation, pointer, condition, step))

    def test_by_chance(self):
        chance = random.Random(69)
        for code in (*CODES, *small_codes(69, 40, 60)):
            names = [name for name, *_ in code.given + code.cells] + ["line", "finger"]
            for rotation in rotations_of(chance, code):
                for given in givens_of(code):
                    for pointer in chance.choices(pointers_of(code, rotation), k=4):
                        self.check(code, given, rotation, pointer, chance_expression(chance, names, (), 4))

    def test_every_pointer(self):
        """Each pointer is found from each other one of its tour, and from no other."""
        for code in (STEP, FLIP, KINDS):
            for rotation in (Rotation(code), lean_rotation(code)):
                for given in givens_of(code)[:2]:
                    for goal in pointers_of(code, rotation):
                        (line, values), finger = goal
                        condition = ("and", ("=", "line", line), ("=", "finger", finger))
                        for (name, _, _), value in zip(code.cells, values):
                            condition = ("and", condition, ("=", name, value))
                        tour = list(tour_from(code, given, *goal, rotation=rotation))
                        for pointer in pointers_of(code, rotation):
                            debugger = at_pointer(code, given, rotation, pointer)
                            moves = debugger.seek(condition)
                            if pointer in tour:
                                self.assertEqual((moves, place_of(debugger)), (len(tour) - tour.index(pointer), goal))
                            else:
                                self.assertEqual((moves, place_of(debugger)), (0, pointer))
                            debugger = at_pointer(code, given, rotation, pointer)
                            moves = debugger.seek_back(condition)
                            if pointer in tour:
                                self.assertEqual((moves, place_of(debugger)), (tour.index(pointer) or len(tour), goal))
                            else:
                                self.assertEqual((moves, place_of(debugger)), (0, pointer))

    def test_at_once_and_nowhere(self):
        for function in ("seek", "seek_back"):
            debugger = Debugger(COUNT, ())
            self.assertEqual(getattr(debugger, function)(1), 1)
            debugger.go_home()
            self.assertEqual(getattr(debugger, function)(0), 0)
            self.assertEqual(getattr(debugger, function)(NOWHERE), 0)
            self.assertEqual(getattr(debugger, function)(condition=-3), 1)
            debugger.go_to((2, (0,)))
            self.assertEqual((getattr(debugger, function)(("=", "line", 0)), place_of(debugger)), (0, ((2, (0,)), 0)))

    def test_a_tour_of_one_pointer(self):
        code = Code((), (), 1, (("fail",), ("fail",)))
        for function in ("seek", "seek_back"):
            debugger = at_pointer(code, (), None, ((1, ()), 0))
            self.assertEqual([getattr(debugger, function)(condition) for condition in (0, 1, ("=", "line", 1), ("=", "line", 0))], [0, 1, 1, 0])
            self.assertEqual(place_of(debugger), ((1, ()), 0))

    def test_only_where_it_stands(self):
        condition = ("and", ("=", "line", 0), ("and", ("=", "finger", 1), ("=", "x", 0)))
        tour = list(tour_from(COUNT, (), (0, (0,)), 1))
        for function in ("seek", "seek_back"):
            debugger = Debugger(COUNT, ())
            self.assertEqual((getattr(debugger, function)(condition), place_of(debugger)), (len(tour), tour[0]))

    def test_given_cells_and_helpers(self):
        code = Code((("g", 2),), (("x", 2, 0),), 2, (("set", "x", ("-", 1, "x"), 1), ("stop", "g")), (("step", STEP), ("kinds", KINDS)))
        conditions = (("=", "g", 1), ("=", ("call", "step", ()), ("+", "line", 1)), ("=", ("call", "kinds", ("finger",)), 0),
                      ("and", "g", "x"), ("=", ("call", "kinds", (("+", "line", "g"),)), 2))
        for given in givens_of(code):
            for pointer in pointers_of(code, Rotation(code)):
                for condition in conditions:
                    self.check(code, given, None, pointer, condition)

    def test_largest_condition(self):
        condition = ("=", "x", 2)
        for _ in range(8):
            condition = ("or", condition, 0)
        debugger = Debugger(COUNT, ())
        other = Debugger(COUNT, ())
        self.assertEqual(debugger.seek(condition), other.seek(("=", "x", 2)))
        self.assertEqual(place_of(debugger), place_of(other))

    def test_documented(self):
        debugger = Debugger(COUNT, ())
        self.assertEqual((debugger.seek(("=", "line", 2)), debugger.state, debugger.outcome()), (16, (2, (2,)), 3))
        debugger = Debugger(FLIP, ())
        self.assertEqual((debugger.seek_back(("=", "x", 1)), debugger.snapshot(), debugger.age(), debugger.outcome()), (1, (0, 2, 1), 4, 0))
        debugger = Debugger(FLIP, ())
        self.assertEqual((debugger.seek(("=", "finger", 0)), debugger.state, debugger.finger), (0, (0, (0,)), 1))


class AnswerTest(unittest.TestCase):
    def check(self, code, given, rotation):
        tour = list(tour_from(code, given, start_state(code), 1, rotation=rotation))
        for pointer in pointers_of(code, rotation):
            debugger = at_pointer(code, given, rotation, pointer)
            before = dict(vars(debugger))
            self.assertEqual(debugger.age(), tour.index(pointer) if pointer in tour else None)
            self.assertEqual(debugger.outcome(), outcome(code, given, pointer[0]))
            self.assertEqual(debugger.snapshot(), (pointer[0][0], pointer[1], *pointer[0][1]))
            self.assertEqual((place_of(debugger), vars(debugger)), (pointer, before))

    def test_answers(self):
        chance = random.Random(70)
        for code in (*CODES, *small_codes(70, 50, 40)):
            for rotation in rotations_of(chance, code):
                for given in givens_of(code):
                    self.check(code, given, rotation)

    def test_with_helpers(self):
        chance = random.Random(71)
        for _ in range(12):
            code = chance_code(chance, (("one", chance_code(chance)), ("flip", FLIP)))
            if code.state_count <= 40:
                for given in givens_of(code):
                    self.check(code, given, chance.choice(rotations_of(chance, code)))

    def test_age(self):
        debugger = Debugger(COUNT, ())
        self.assertEqual(debugger.age(), 0)
        debugger.forward(9)
        self.assertEqual(debugger.age(), 9)
        debugger.backward(10)
        self.assertEqual(debugger.age(), len(list(tour_from(COUNT, (), (0, (0,)), 1))) - 1)
        debugger.go_to((2, (0,)), 1)
        self.assertIsNone(debugger.age())
        # The other tour of a component with a cycle.
        debugger = at_pointer(FLIP, (), None, ((0, (0,)), 0))
        self.assertEqual((debugger.age(), debugger.seek(("=", "x", 0)), debugger.snapshot()), (None, 3, (0, 0, 0)))

    def test_all_kinds_of_outcomes(self):
        numbers = set()
        for code in CODES:
            for given in givens_of(code):
                for state in all_states(code):
                    number = at_pointer(code, given, None, (state, 0)).outcome()
                    self.assertEqual(number, outcome(code, given, state))
                    numbers.add((number > 0) + (number > code.answers))
        self.assertEqual(numbers, {0, 1, 2})


class SnapshotTest(unittest.TestCase):
    def test_back_from_snapshots(self):
        chance = random.Random(72)
        for code in (*CODES, *small_codes(72, 25, 40)):
            for rotation in (None, *rotations_of(chance, code)):
                for given in givens_of(code):
                    for pointer in chance.choices(pointers_of(code, rotation or Rotation(code)), k=5):
                        old = at_pointer(code, given, rotation, pointer)
                        new = Debugger.from_snapshot(code, given, old.snapshot(), rotation=rotation)
                        self.assertIs(type(new), Debugger)
                        self.same(chance, code, old, new)

    def same(self, chance, code, old, new):
        """Both debuggers do and answer the same."""
        names = [name for name, *_ in code.given + code.cells] + ["line", "finger"]
        for _ in range(6):
            self.assertEqual(place_of(old), place_of(new))
            self.assertEqual((old.age(), old.outcome(), old.snapshot()), (new.age(), new.outcome(), new.snapshot()))
            name, arguments = chance.choice((
                ("forward", (chance.randrange(9),)), ("backward", ()), ("seek", (chance_expression(chance, names, (), 3),)),
                ("seek_back", (chance_expression(chance, names, (), 3),)), ("forward", ()),
            ))
            self.assertEqual(getattr(old, name)(*arguments), getattr(new, name)(*arguments))

    def told(self, snapshot, code=COUNT, given=(), rotation=None):
        made = told(Debugger.from_snapshot, code, given, snapshot, rotation=rotation)
        return made.snapshot() if isinstance(made, Debugger) else made

    def test_too_short(self):
        code = Code((("g", 2),), (("a", 2, 0), ("b", 3, 1), ("c", 2, 0)), 1, (("set", "b", "g", 1), ("fail",)))
        right = (1, 3, 1, 2, 0)
        self.assertEqual(self.told(right, code, (0,)), right)
        for many in range(5):
            self.assertEqual(self.told(right[:many], code, (0,)), bad(many))

    def test_too_long(self):
        self.assertEqual(self.told((0, 1, 2, 0)), bad(3))
        self.assertEqual(self.told((0, 1, 2, 0, 0, 0)), bad(3))
        self.assertEqual(self.told((0, 1, 2) + (-1,) * 5000), bad(3))
        self.assertEqual(self.told((0, 1, 0), BARE), bad(2))
        self.assertEqual(self.told((0, 1), BARE), (0, 1))

    def test_numbers(self):
        self.assertEqual(self.told((2, 1, 2)), (2, 1, 2))
        for line in (-1, 3, 10 ** 40, -10 ** 40):
            self.assertEqual(self.told((line, 0, 0)), bad(0))
            self.assertEqual(self.told((line,)), bad(0))
            self.assertEqual(self.told((line, 99, 99, 99)), bad(0))
        for line in range(3):
            for finger in (-1, finger_count(COUNT, line), 10 ** 40):
                self.assertEqual(self.told((line, finger, 0)), bad(1))
                self.assertEqual(self.told((line, finger)), bad(1))
                self.assertEqual(self.told((line, finger, 99, 99)), bad(1))
            for value in (-1, 3, 10 ** 40, -10 ** 40):
                self.assertEqual(self.told((line, 0, value)), bad(2))
                self.assertEqual(self.told((line, 0, value, 0)), bad(2))
        self.assertEqual(self.told(()), bad(0))

    def test_several_values(self):
        code = Code((), (("a", 2, 0), ("b", 3, 1), ("c", 2, 0)), 1, (("fail",),))
        for at, size in enumerate((2, 3, 2)):
            for value in (-1, size, size + 1):
                snapshot = [0, 1, 0, 0, 0]
                snapshot[2 + at] = value
                self.assertEqual(self.told(tuple(snapshot), code), bad(2 + at))
                self.assertEqual(self.told((*snapshot[:3 + at], *[77] * 4), code), bad(2 + at))

    def test_rows(self):
        lean = lean_rotation(STEP)
        self.assertEqual(self.told((1, 2, 0), STEP, rotation=lean), bad(1))
        self.assertEqual(self.told((1, 2, 0), STEP), (1, 2, 0))
        self.assertEqual(self.told((1, 2, 0), STEP, rotation=Rotation(STEP, ((1, 0), (2, 0, 1)))), (1, 2, 0))
        self.assertEqual(self.told((1, 1, 0), STEP, rotation=lean), (1, 1, 0))
        # The rotation goes on to count behind the snapshot.
        made = Debugger.from_snapshot(STEP, (), (1, 1, 0), rotation=lean)
        made.forward()
        self.assertEqual(made.snapshot(), (1, 0, 0))

    def test_arguments(self):
        made = Debugger.from_snapshot(snapshot=(0, 1, 1), given=(), code=FLIP, rotation=None)
        self.assertEqual(made.snapshot(), (0, 1, 1))
        with self.assertRaises(TypeError):
            Debugger.from_snapshot(FLIP, (), (0, 1, 1), None)
        self.assertIsInstance(vars(Debugger)["from_snapshot"], classmethod)
        self.assertEqual(Debugger(FLIP, ()).from_snapshot(COUNT, (), (2, 1, 0)).state, (2, (0,)))

    def test_documented(self):
        debugger = Debugger(FLIP, ())
        debugger.forward(3)
        self.assertEqual((debugger.snapshot(), debugger.age()), ((0, 1, 1), 3))
        self.assertEqual(told(Debugger.from_snapshot, FLIP, (), (0, 1, 2, 5)), bad(2))


class QuickTest(unittest.TestCase):
    def test_largest(self):
        debugger = Debugger(LARGEST, (3, 2))
        number = outcome(LARGEST, (3, 2))
        self.assertEqual(debugger.outcome(), number)
        moves = debugger.seek(("and", ("=", "line", 23), ("=", "finger", 0)))
        self.assertEqual((debugger.age(), end_number(LARGEST, (3, 2), debugger.state)), (moves, number))
        self.assertEqual(debugger.seek(NOWHERE), 0)
        self.assertEqual(debugger.seek_back(NOWHERE), 0)
        self.assertEqual(debugger.age(), moves)


if __name__ == "__main__":
    unittest.main()
