"""Slots and fingers of lines: points 38 and 39."""

import random
import unittest

from sameroom.codes import Code
from sameroom.slots import finger_count, finger_slot, slot_finger, slots
from tests.helping import chance_code, is_plain

# Nothing leads to line 3; line 1 leads to itself, and several ways lead from one line to another.
CODE = Code((("g", 4),), (("x", 3, 0), ("y", 2, 1)), 2, (
    ("pick", "g", (1, 2, 1, 1)), ("set", "x", ("-", "x", 1), 1), ("set", "y", 0, 0), ("pick", "x", (2, 4)), ("stop", "x"),
    ("fail",),
), (), 2)


def slow_slots(code, line):
    sizes = {name: size for name, size, _ in code.cells}
    found = set()
    for source, row in enumerate(code.lines):
        if row[0] == "set" and row[3] == line:
            found |= {(source, 0, old) for old in range(sizes[row[1]])}
        if row[0] == "pick":
            found |= {(source, arm, 0) for arm, target in enumerate(row[2]) if target == line}
    return tuple(sorted(found))


class SlotsTest(unittest.TestCase):
    def test_slots(self):
        self.assertEqual([slots(CODE, line) for line in range(6)], [
            ((2, 0, 0), (2, 0, 1)),
            ((0, 0, 0), (0, 2, 0), (0, 3, 0), (1, 0, 0), (1, 0, 1), (1, 0, 2)),
            ((0, 1, 0), (3, 0, 0)),
            (),
            ((3, 1, 0),),
            (),
        ])
        self.assertEqual(slots(code=CODE, line=4), ((3, 1, 0),))

    def test_fingers(self):
        self.assertEqual([finger_count(CODE, line) for line in range(6)], [3, 7, 4, 1, 2, 1])
        self.assertEqual([finger_slot(CODE, 0, finger) for finger in range(3)], [None, (2, 0, 0), (2, 0, 1)])
        self.assertEqual([finger_slot(CODE, 2, finger) for finger in range(4)], [None, None, (0, 1, 0), (3, 0, 0)])
        self.assertEqual([finger_slot(CODE, 3, 0), finger_slot(CODE, 4, 1)], [None, (3, 1, 0)])
        self.assertEqual([slot_finger(CODE, 2, (0, 1, 0)), slot_finger(CODE, 2, (3, 0, 0))], [2, 3])
        self.assertEqual([slot_finger(CODE, 1, (0, 3, 0)), slot_finger(CODE, 1, (1, 0, 2))], [3, 6])
        self.assertEqual(finger_count(code=CODE, line=2), 4)
        self.assertEqual(finger_slot(code=CODE, line=2, finger=3), (3, 0, 0))
        self.assertEqual(slot_finger(code=CODE, line=2, slot=(3, 0, 0)), 3)

    def test_the_entry_alone(self):
        code = Code((), (), 1, (("fail",), ("stop", 0)), (), 1)
        self.assertEqual([finger_count(code, 0), finger_count(code, 1)], [1, 2])
        self.assertEqual([finger_slot(code, 1, 0), finger_slot(code, 1, 1)], [None, None])
        self.assertEqual((slots(code, 0), slots(code, 1)), ((), ()))

    def test_one_state_that_leads_to_itself(self):
        code = Code((), (), 1, (("pick", 0, (0,)),))
        self.assertEqual((slots(code, 0), finger_count(code, 0), slot_finger(code, 0, (0, 0, 0))), (((0, 0, 0),), 3, 2))

    def test_most_slots(self):
        lines = tuple(("set", "x", "x", 23) for _ in range(24))
        code = Code((), (("x", 8, 0),), 1, lines, (), 23)
        self.assertEqual((len(slots(code, 23)), finger_count(code, 23)), (192, 194))
        self.assertEqual((slot_finger(code, 23, (23, 0, 7)), finger_slot(code, 23, 193)), (193, (23, 0, 7)))
        self.assertEqual(finger_count(code, 0), 1)

    def test_by_chance(self):
        chance = random.Random(38)
        for _ in range(200):
            code = chance_code(chance)
            for line in range(len(code.lines)):
                row = slots(code, line)
                self.assertEqual(row, slow_slots(code, line))
                first = 2 if line == code.entry else 1
                fingers = [finger_slot(code, line, finger) for finger in range(finger_count(code, line))]
                self.assertEqual(fingers, [None] * first + list(row))
                self.assertEqual([slot_finger(code, line, slot) for slot in row], list(range(first, len(fingers))))
                self.assertTrue(is_plain((row, tuple(fingers), finger_count(code, line))))
                self.assertTrue(all(type(slot_finger(code, line, slot)) is int for slot in row))

    def test_equal_codes_and_equal_questions(self):
        other = Code(CODE.given, CODE.cells, CODE.answers, CODE.lines, CODE.helpers, CODE.entry)
        for line in range(6):
            self.assertEqual(slots(CODE, line), slots(other, line))
            self.assertEqual(slots(CODE, line), slots(CODE, line))


if __name__ == "__main__":
    unittest.main()
