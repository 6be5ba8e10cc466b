"""Unused fingers and rotations: points 41 and 42."""

import itertools
import random
import unittest

from sameroom.codes import Code
from sameroom.fingers import is_blind
from sameroom.plain import all_states
from sameroom.rotations import Rotation, lean_rotation, unused_fingers
from sameroom.slots import finger_count, finger_slot
from tests.helping import chance_code, givens_of, is_plain, told

COUNT = Code((), (("x", 3, 0),), 3, (
    ("set", "x", ("mod", ("+", "x", 1), 3), 1), ("pick", ("=", "x", 2), (0, 2)), ("stop", "x"),
))
STEP = Code((), (("x", 2, 0),), 2, (("set", "x", ("+", "x", 1), 1), ("stop", "x")))
# Line 1 is reached from x = 0 and x = 1 alone, line 2 by the arms 0 and 2 alone; nothing reaches line 3.
PART = Code((("g", 2),), (("x", 4, 0),), 2, (
    ("set", "x", ("+", "x", 2), 1), ("pick", ("*", 2, "g"), (2, 0, 2, 3)), ("stop", 0), ("pick", -1, (0, 1)),
))


def bad(at):
    return ("BadRotation", {"at": at})


class UnusedTest(unittest.TestCase):
    def test_unused(self):
        self.assertEqual(unused_fingers(STEP), ((1, 2),))
        self.assertEqual(unused_fingers(COUNT), ())
        # Line 0 has finger 0, the entry, the arm 1 of line 1, and the arm 0 of line 3.
        self.assertEqual(unused_fingers(PART), ((0, 2), (0, 3), (1, 3), (1, 4), (1, 5), (3, 1)))
        self.assertEqual(unused_fingers(code=PART), unused_fingers(PART))

    def test_a_slot_that_some_given_uses(self):
        code = Code((("g", 8),), (("x", 2, 0),), 1, (("set", "x", ("+", ("-", "g", 7), "x"), 1), ("fail",)))
        self.assertEqual(unused_fingers(code), ())
        code = Code((("g", 7),), (("x", 2, 0),), 1, (("set", "x", ("+", ("-", "g", 7), "x"), 1), ("fail",)))
        self.assertEqual(unused_fingers(code), ((1, 1),))

    def test_states_that_no_run_meets_count(self):
        code = Code((), (("x", 2, 0), ("y", 2, 0)), 1, (("pick", "y", (1, 2)), ("fail",), ("fail",)))
        self.assertEqual(unused_fingers(code), ())

    def test_entry_and_ahead_are_never_unused(self):
        code = Code((), (), 1, (("fail",), ("fail",)), (), 1)
        self.assertEqual(unused_fingers(code), ())
        self.assertEqual(told(Rotation, code, ((0,), (0,))), bad(1))
        self.assertEqual(told(Rotation, code, ((), (0, 1))), bad(0))

    def test_largest(self):
        cells = (("x", 8, 0), ("y", 8, 0))
        lines = tuple(("set", "x", ("+", "g", ("+", "k", ("+", "x", "y"))), (line + 1) // 2) for line in range(24))
        code = Code((("g", 8), ("k", 4)), cells, 1, lines)
        self.assertEqual(unused_fingers(code), ())
        self.assertEqual(lean_rotation(code).rows, Rotation(code).rows)

    def test_by_chance(self):
        chance = random.Random(42)
        some = 0
        for _ in range(80):
            code = chance_code(chance)
            givens, states = givens_of(code), list(all_states(code))
            unused = tuple(
                (line, finger) for line in range(len(code.lines)) for finger in range(finger_count(code, line))
                if finger_slot(code, line, finger) is not None
                and all(is_blind(code, given, state, finger) for given in givens for state in states if state[0] == line)
            )
            self.assertEqual(unused_fingers(code), unused)
            self.assertTrue(is_plain(unused_fingers(code)))
            rows = tuple(
                tuple(finger for finger in range(finger_count(code, line)) if (line, finger) not in unused)
                for line in range(len(code.lines))
            )
            self.assertEqual(lean_rotation(code).rows, rows)
            some += unused != ()
        self.assertGreater(some, 20)


class RowsTest(unittest.TestCase):
    def test_plain(self):
        self.assertEqual(Rotation(COUNT).rows, ((0, 1, 2), (0, 1, 2, 3), (0, 1)))
        self.assertEqual(Rotation(code=COUNT, rows=None).rows, ((0, 1, 2), (0, 1, 2, 3), (0, 1)))
        self.assertEqual(Rotation(PART).rows, ((0, 1, 2, 3), (0, 1, 2, 3, 4, 5), (0, 1, 2), (0, 1)))
        self.assertTrue(is_plain(Rotation(PART).rows))

    def test_lean(self):
        self.assertEqual(lean_rotation(STEP).rows, ((0, 1), (0, 1)))
        self.assertEqual(lean_rotation(code=PART).rows, ((0, 1), (0, 1, 2), (0, 1, 2), (0,)))
        self.assertIs(type(lean_rotation(PART)), Rotation)
        self.assertTrue(is_plain(lean_rotation(PART).rows))

    def test_any_order(self):
        for row in itertools.permutations(range(4)):
            self.assertEqual(Rotation(COUNT, ((2, 0, 1), row, (1, 0))).rows, ((2, 0, 1), row, (1, 0)))

    def test_unused_ones_in_part(self):
        for more in itertools.chain.from_iterable(itertools.combinations((3, 4, 5), count) for count in range(4)):
            row = (2, 0, *more, 1)
            self.assertEqual(Rotation(PART, ((1, 3, 0), row, (2, 1, 0), (1, 0))).rows, ((1, 3, 0), row, (2, 1, 0), (1, 0)))

    def test_wrong_rows(self):
        right = ((2, 0, 1), (3, 2, 1, 0), (1, 0))
        wrong = {
            0: ((), (0, 1), (1, 2), (0, 2), (0, 1, 1, 2), (0, 0, 1, 2), (0, 1, 2, 2), (0, 1, 2, 3), (-1, 0, 1, 2), (0, 1, -1),
                (0, 1, 2, 10 ** 30), (-10 ** 30, 0, 1, 2), (0, 1, 3), (0, 1, -3)),
            1: ((), (0,), (1, 2, 3), (0, 1, 2), (0, 1, 3), (0, 1, 2, 2), (0, 1, 2, 3, 0), (0, 1, 2, 3, 4), (0, 1, 2, 3, -1), (0, 1, 2, -1)),
            2: ((), (0,), (1,), (0, 0), (1, 0, 1), (0, 1, 2), (0, 2), (0, -1), (0, 1, -2)),
        }
        for at, rows in wrong.items():
            for row in rows:
                self.assertEqual(told(Rotation, COUNT, right[:at] + (row,) + right[at + 1:]), bad(at), row)
                # It is the first line that is told.
                self.assertEqual(told(Rotation, COUNT, right[:at] + (row,) + ((-7,),) * (2 - at)), bad(at), row)
        self.assertEqual(told(Rotation, COUNT, ((0, 1, 2), (0, 1, 2, 2), (0, 1))), bad(1))

    def test_wrong_rows_with_unused_ones(self):
        right = ((0, 1), (0, 1, 2), (0, 1, 2), (0,))
        Rotation(PART, right)
        for at, row in ((0, (0, 2)), (0, (0, 3, 2)), (1, (0, 1, 3)), (1, (0, 2, 4, 5)), (1, (0, 1, 2, 3, 3)), (1, (0, 1, 2, 6)),
                        (2, (0, 1)), (2, (0, 2)), (3, (1,)), (3, (0, 2)), (3, (0, 1, 1)), (3, (0, -1))):
            self.assertEqual(told(Rotation, PART, right[:at] + (row,) + right[at + 1:]), bad(at), row)


class TurningTest(unittest.TestCase):
    def test_documented(self):
        rotation = Rotation(COUNT, ((2, 0, 1), (3, 2, 1, 0), (1, 0)))
        self.assertEqual([rotation.after(1, 0), rotation.before(1, 3), rotation.after(0, 1)], [3, 0, 2])

    def test_after_and_before(self):
        rotation = Rotation(PART, ((1, 3, 0), (2, 0, 4, 1), (0, 2, 1), (0,)))
        for line, row in enumerate(rotation.rows):
            for at, finger in enumerate(row):
                after = row[at + 1] if at + 1 < len(row) else row[0]
                self.assertEqual(rotation.after(line, finger), after)
                self.assertEqual(rotation.after(line=line, finger=finger), after)
                self.assertEqual(rotation.before(line, after), finger)
                self.assertEqual(rotation.before(line=line, finger=after), finger)
        self.assertEqual((rotation.after(3, 0), rotation.before(3, 0)), (0, 0))
        self.assertIs(type(rotation.after(3, 0)), int)

    def test_equality(self):
        other = Code(COUNT.given, COUNT.cells, COUNT.answers, COUNT.lines)
        self.assertIs(Rotation(COUNT) == Rotation(other), True)
        self.assertIs(Rotation(COUNT) == Rotation(COUNT, ((0, 1, 2), (0, 1, 2, 3), (0, 1))), True)
        self.assertIs(Rotation(COUNT) == lean_rotation(COUNT), True)
        self.assertIs(Rotation(COUNT) != Rotation(COUNT), False)
        # The order within a row counts, also where the same fingers follow one another.
        self.assertIs(Rotation(COUNT) == Rotation(COUNT, ((0, 1, 2), (0, 1, 2, 3), (1, 0))), False)
        self.assertIs(Rotation(STEP) == lean_rotation(STEP), False)
        different = Code((), (("y", 2, 0),), 9, (("set", "y", 0, 1), ("fail",)))
        self.assertIs(Rotation(STEP) == Rotation(different), True)
        for value in (None, 0, "rotation", Rotation(COUNT).rows, COUNT, ()):
            self.assertIs(Rotation(COUNT) == value, False)
            self.assertIs(Rotation(COUNT) != value, True)

    def test_methods_stand_in_the_class(self):
        for name in ("__init__", "__eq__", "after", "before"):
            self.assertIn(name, vars(Rotation))

    def test_equal_questions(self):
        rotation = Rotation(PART)
        rows = rotation.rows
        first = [rotation.after(1, finger) for finger in range(6)]
        unused_fingers(PART)
        self.assertEqual([rotation.after(1, finger) for finger in range(6)], first)
        self.assertIs(rotation.rows, rows)
        self.assertTrue(PART == Code(PART.given, PART.cells, PART.answers, PART.lines))


if __name__ == "__main__":
    unittest.main()
