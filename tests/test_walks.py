"""What walkers tell and how long they walk: point 61, with points 59 and 60."""

import random
import unittest

from sameroom.codes import Code
from sameroom.compiling import code_of
from sameroom.librarytexts import read_library
from sameroom.plain import end_number, outcome
from sameroom.rotations import Rotation, lean_rotation
from sameroom.slots import finger_count
from sameroom.walkers import walker
from sameroom.walks import walk_outcome, walk_steps
from tests.helping import COUNT, FLIP, KINDS, LARGEST, STEP, chance_code, chance_library, givens_of, rotations_of, slow_tour

NEVER = Code((("k", 2),), (), 1, (("pick", 0, (0,)),))
ASKING = Code((("g", 3),), (("x", 2, 1),), 2, (
    ("pick", ("=", ("call", "never", ("g",)), 0), (2, 1)), ("set", "x", ("call", "never", ("x",)), 2), ("stop", "x"),
), (("never", NEVER),))


class WalkTest(unittest.TestCase):
    def check(self, code, given, rotation):
        number = outcome(code, given)
        tour = slow_tour(code, given, rotation)
        ends = [at for at, (state, finger) in enumerate(tour) if finger == 0 and end_number(code, given, state) is not None]
        for homeward in ("tour", "return"):
            steps = 2 * ends[0] + 1 if homeward == "return" and ends else len(tour) + 1
            told = walk_outcome(code, given, rotation=rotation, homeward=homeward)
            self.assertIs(type(told), int)
            self.assertEqual(told, number)
            told = walk_steps(code, given, rotation=rotation, homeward=homeward)
            self.assertIs(type(told), int)
            self.assertEqual(told, steps)
        return number

    def test_by_chance(self):
        chance = random.Random(61)
        kinds = set()
        for code in (STEP, COUNT, FLIP, KINDS, NEVER, ASKING, *[chance_code(chance) for _ in range(60)]):
            for given in givens_of(code):
                for rotation in rotations_of(chance, code):
                    number = self.check(code, given, rotation)
                    kinds.add(0 if number == 0 else 1 if number <= code.answers else 2)
        self.assertEqual(kinds, {0, 1, 2})

    def test_with_helpers(self):
        chance = random.Random(62)
        for _ in range(20):
            one = chance_code(chance, (("never", NEVER),))
            two = chance_code(chance, (("one", one), ("flip", FLIP)))
            code = chance_code(chance, (("one", one), ("two", two), ("asking", ASKING)))
            for given in givens_of(code):
                for rotation in rotations_of(chance, code):
                    self.check(code, given, rotation)

    def test_libraries(self):
        chance = random.Random(63)
        for _ in range(8):
            library = chance_library(chance, 3)
            for program in library:
                code = code_of(library, program.name)
                for given in givens_of(code):
                    self.check(code, given, lean_rotation(code))

    def test_every_finger_is_passed_if_the_run_ends(self):
        # Every state of these leads to one end.
        code = Code((), (("x", 4, 0),), 4, (("set", "x", ("-", 3, ("*", 0, "x")), 1), ("pick", ("=", "x", 3), (0, 2)), ("stop", "x")))
        fingers = 4 * finger_count(code, 0) + 4 * finger_count(code, 1) + finger_count(code, 2)
        self.assertEqual(walk_steps(code, ()), fingers + 1)
        self.assertEqual(walk_outcome(code, ()), 4)

    def test_plain_rotation(self):
        for code in (STEP, COUNT, FLIP, KINDS, ASKING):
            for given in givens_of(code):
                for function in (walk_outcome, walk_steps):
                    self.assertEqual(function(code, given), function(code, given, rotation=Rotation(code), homeward="tour"))
                    self.assertEqual(function(code, given), function(homeward="tour", rotation=None, given=given, code=code))
                    self.assertEqual(function(code, given, homeward="return"), function(code, given, rotation=Rotation(code), homeward="return"))

    def test_arguments(self):
        for function in (walk_outcome, walk_steps):
            with self.assertRaises(TypeError):
                function(COUNT, (), Rotation(COUNT))
            with self.assertRaises(TypeError):
                function(COUNT, (), None, "return")

    def test_documented(self):
        self.assertEqual((walk_outcome(COUNT, ()), walk_steps(COUNT, ()), walk_steps(COUNT, (), homeward="return")), (3, 24, 33))
        self.assertEqual((walk_outcome(FLIP, ()), walk_steps(FLIP, ())), (0, 6))
        lean = lean_rotation(STEP)
        self.assertEqual((walk_steps(STEP, (), rotation=lean), walk_steps(STEP, (), homeward="return"),
                          walk_steps(STEP, (), rotation=lean, homeward="return")), (5, 7, 5))
        turned = Rotation(FLIP, ((0, 2, 1, 3),))
        self.assertEqual((walk_steps(FLIP, (), rotation=turned), walk_outcome(FLIP, (), rotation=turned)), (5, 0))

    def test_equal_questions(self):
        told = [walk_outcome(KINDS, given) for given in givens_of(KINDS)]
        walk_outcome(COUNT, ())
        walk_steps(KINDS, (1,), homeward="return")
        self.assertEqual([walk_outcome(KINDS, given) for given in givens_of(KINDS)], told)

    def test_rooms(self):
        def room(code):
            return len(code.cells) + 1 + max([0] + [room(helper) for _, helper in code.helpers])
        chance = random.Random(64)
        for _ in range(20):
            one = chance_code(chance, (("never", NEVER),))
            code = chance_code(chance, (("one", one), ("asking", ASKING)))
            self.assertEqual(walker(code).room, room(code))
            self.assertEqual(walker(code, homeward="return").room, room(code))
            self.assertEqual(walker(code, rotation=lean_rotation(code)).room, room(code))

    def test_helpers_that_go_on_for_ever(self):
        self.assertEqual([walk_outcome(ASKING, (g,)) for g in (0, 1, 2)], [1, 1, 2])
        library = read_library(
            "program a\nanswers 1\nbegin\nwhile 1\nend\nend\n"
            "program b\nanswers 2\nbegin\nif a() = 0\nstop 1\nend\nend\n"
            "program c\nanswers 1\nbegin\nwhile b() = 2\nend\nend\n"
            "program d\nanswers 3\nbegin\nstop 2 - c()\nend\n"
        )
        self.assertEqual([walk_outcome(code_of(library, name), ()) for name in "abcd"], [0, 2, 0, 3])


class QuickTest(unittest.TestCase):
    def test_largest(self):
        for given in givens_of(LARGEST):
            self.assertEqual(walk_outcome(LARGEST, given), 1 + given[1] + given[0] // 2)
            self.assertEqual(walk_outcome(LARGEST, given, homeward="return"), 1 + given[1] + given[0] // 2)

    def test_helpers_of_helpers(self):
        # Asked anew for each given, the helpers keep what they have told.
        made = Code((("k", 8),), (("x", 8, 0), ("y", 8, 0)), 9, tuple([
            ("set", "x", ("mod", ("+", "x", 1), 8), line + 1) for line in range(22)
        ]) + (("pick", ("=", "x", 0), (0, 23)), ("stop", "k")))
        for _ in range(4):
            made = Code((("k", 8),), (("x", 8, 0),), 9, (
                ("set", "x", ("-", ("call", "a", ("x",)), 1), 1), ("pick", ("=", "x", "k"), (2, 3)),
                ("set", "x", ("mod", ("+", "x", 1), 8), 0), ("stop", ("call", "a", ("k",))),
            ), (("a", made),))
        for given in givens_of(made):
            self.assertEqual(walk_outcome(made, given), outcome(made, given))


if __name__ == "__main__":
    unittest.main()
