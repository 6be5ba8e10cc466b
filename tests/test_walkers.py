"""Walkers: points 54 and 56 to 60."""

import itertools
import random
import unittest

from sameroom.books import Book
from sameroom.codes import Code
from sameroom.compiling import code_of
from sameroom.expressions import replaced
from sameroom.librarytexts import read_library
from sameroom.plain import all_states, end_number, outcome, start_state
from sameroom.rotations import Rotation, lean_rotation
from sameroom.running import advance, book_next, course, rule_result
from sameroom.slots import finger_count, finger_slot, slot_finger, slots
from sameroom.walkers import finger_at, place_of, walker
from tests.helping import (
    COUNT, FLIP, KINDS, LARGEST, STEP, chance_code, check_reversible, givens_of, is_plain, rotations_of, slow_onward, slow_tour, states_of,
    wide,
)

KINDS_RULES = (
    (0, ("=", "x", 1), None, 0, 0, 7, False),
    (2, 1, "x", 0, ("-", "g", 0), 8, False),
    (2, 1, "x", 1, ("-", "g", 1), 5, False),
    (2, ("or", ("<", ("-", "g", "x"), 0), (">=", ("-", "g", "x"), 2)), "answer", 0, 3, 3, False),
    (3, ("=", "g", 0), None, 0, 0, 6, False),
    (3, ("!=", "g", 0), None, 0, 0, 4, False),
    (4, ("=", "g", 1), None, 0, 0, 6, False),
    (4, ("!=", "g", 1), None, 0, 0, 2, False),
    (5, ("=", "g", 0), None, 0, 0, 4, False),
    (5, ("=", "g", 1), None, 0, 0, 2, False),
    (5, ("=", "g", 2), None, 0, 0, 9, False),
    (5, ("or", ("<", "g", 0), (">=", "g", 3)), "answer", 0, 4, 6, False),
    (6, ("=", "x", 1), None, 0, 0, 1, False),
    (6, ("not", ("=", "x", 1)), None, 0, 0, 7, False),
    (7, 1, "x", ("-", "g", 0), 0, 3, False),
    (7, ("!=", "x", ("-", "g", 0)), None, 0, 0, 8, False),
    (8, 1, "x", ("-", "g", 1), 1, 3, False),
    (8, ("!=", "x", ("-", "g", 1)), None, 0, 0, 5, False),
    (9, ("not", ("or", ("<", "x", 0), (">=", "x", 2))), "answer", 0, ("+", 1, "x"), 10, False),
    (9, ("or", ("<", "x", 0), (">=", "x", 2)), "answer", 0, 5, 10, False),
    (10, ("=", "g", 2), None, 0, 0, 6, False),
    (10, ("!=", "g", 2), None, 0, 0, 9, False),
    (11, 1, "answer", 0, 6, 11, False),
)
TURNED_ROWS = ((1, 0, 2), (3, 1, 0, 2), (1, 0), (0,))
TURNED_RULES = (
    (0, ("=", "x", 1), None, 0, 0, 5, False),
    (2, 1, "x", 0, ("-", "g", 0), 8, False),
    (2, 1, "x", 1, ("-", "g", 1), 6, False),
    (2, ("or", ("<", ("-", "g", "x"), 0), (">=", ("-", "g", "x"), 2)), "answer", 0, 3, 12, False),
    (3, ("=", "g", 0), None, 0, 0, 7, False),
    (3, ("!=", "g", 0), None, 0, 0, 2, False),
    (4, ("=", "g", 1), None, 0, 0, 7, False),
    (4, ("!=", "g", 1), None, 0, 0, 3, False),
    (5, ("=", "g", 0), None, 0, 0, 2, False),
    (5, ("=", "g", 1), None, 0, 0, 3, False),
    (5, ("=", "g", 2), None, 0, 0, 9, False),
    (5, ("or", ("<", "g", 0), (">=", "g", 3)), "answer", 0, 4, 15, False),
    (6, ("and", ("=", "x", 1), ("=", "answer", 0)), None, 0, 0, 1, False),
    (6, ("not", ("=", "x", 1)), None, 0, 0, 5, False),
    (7, 1, "x", ("-", "g", 0), 0, 4, False),
    (7, ("!=", "x", ("-", "g", 0)), None, 0, 0, 8, False),
    (8, 1, "x", ("-", "g", 1), 1, 4, False),
    (8, ("!=", "x", ("-", "g", 1)), None, 0, 0, 6, False),
    (9, ("not", ("or", ("<", "x", 0), (">=", "x", 2))), "answer", 0, ("+", 1, "x"), 19, False),
    (9, ("or", ("<", "x", 0), (">=", "x", 2)), "answer", 0, 5, 19, False),
    (10, ("=", "g", 2), None, 0, 0, 7, False),
    (10, ("!=", "g", 2), None, 0, 0, 9, False),
    (11, 1, "answer", 0, 6, 21, False),
    (15, ("and", ("=", "x", 1), ("!=", "answer", 0)), None, 0, 0, 1, False),
    (18, 1, "x", ("-", "g", 0), 0, 12, False),
    (16, 1, "x", ("-", "g", 1), 1, 12, False),
    (17, ("=", "g", 0), None, 0, 0, 13, False),
    (12, ("!=", "g", 0), None, 0, 0, 13, False),
    (17, ("=", "g", 1), None, 0, 0, 14, False),
    (13, ("!=", "g", 1), None, 0, 0, 14, False),
    (12, ("=", "g", 0), None, 0, 0, 15, False),
    (13, ("=", "g", 1), None, 0, 0, 15, False),
    (19, ("=", "g", 2), None, 0, 0, 15, False),
    (15, ("not", ("=", "x", 1)), None, 0, 0, 16, False),
    (14, 1, "x", 0, ("-", "g", 0), 17, False),
    (18, ("!=", "x", ("-", "g", 0)), None, 0, 0, 17, False),
    (14, 1, "x", 1, ("-", "g", 1), 18, False),
    (16, ("!=", "x", ("-", "g", 1)), None, 0, 0, 18, False),
    (17, ("=", "g", 2), None, 0, 0, 20, False),
    (19, ("!=", "g", 2), None, 0, 0, 20, False),
)


def slow_rules(code, rotation, homeward):
    """The rules, once more from the words of points 57 and 60, with places told by words."""
    def P(line, finger):
        return ("P", line, finger)

    def B(place):
        return {"begin": "home", "home": "home"}.get(place, ("B", *place[1:]))

    def after(line, finger):
        row = rotation.rows[line]
        return P(line, (row + row[:1])[row.index(finger) + 1])

    def out(e, s):
        return ("or", ("<", e, 0), (">=", e, s))

    def answer(line, guard, new):
        return (P(line, 0), guard, "answer", 0, new, after(line, 0), False)
    start = 1
    for name, _, worth in code.cells:
        start = ("=", name, worth) if start == 1 else ("and", start, ("=", name, worth))
    rules = [("begin", start, None, 0, 0, after(code.entry, 1), False)]
    for line, row in enumerate(code.lines):
        fault = 1 + code.answers + line
        for finger in range(finger_count(code, line)):
            if finger not in rotation.rows[line]:
                continue
            here, slot = P(line, finger), finger_slot(code, line, finger)
            if finger == 0:
                ahead = {"set": (line, 0), "pick": (line,)}.get(row[0])
                for target in range(len(code.lines)) if ahead else ():
                    for mark in slots(code, target):
                        if mark[:len(ahead)] == ahead and slot_finger(code, target, mark) in rotation.rows[target]:
                            onward = after(target, slot_finger(code, target, mark))
                            if row[0] == "set":
                                rules.append((here, 1, row[1], mark[2], replaced(row[2], row[1], mark[2]), onward, False))
                            else:
                                rules.append((here, ("=", row[1], mark[1]), None, 0, 0, onward, False))
                if row[0] == "pick":
                    # The arms of one pick may lead to several lines; they are told in their own order.
                    many = len([rule for rule in rules if rule[0] == here])
                    rules[len(rules) - many:] = sorted(rules[len(rules) - many:], key=lambda rule: rule[1][2])
                if row[0] == "set":
                    size = dict((name, size) for name, size, _ in code.cells)[row[1]]
                    rules.append(answer(line, out(row[2], size), fault))
                if row[0] == "pick":
                    rules.append(answer(line, out(row[1], len(row[2])), fault))
                if row[0] == "stop":
                    rules.append(answer(line, ("not", out(row[1], code.answers)), ("+", 1, row[1])))
                    rules.append(answer(line, out(row[1], code.answers), fault))
                if row[0] == "fail":
                    rules.append(answer(line, 1, fault))
            elif slot is None:
                rules.append((here, start, None, 0, 0, "home", False))
                rules.append((here, ("not", start), None, 0, 0, after(line, 1), False))
            else:
                source, arm, old = slot
                other = code.lines[source]
                if other[0] == "set":
                    b = replaced(other[2], other[1], old)
                    rules.append((here, 1, other[1], b, old, after(source, 0), False))
                    rules.append((here, ("!=", other[1], b), None, 0, 0, after(line, finger), False))
                else:
                    rules.append((here, ("=", other[1], arm), None, 0, 0, after(source, 0), False))
                    rules.append((here, ("!=", other[1], arm), None, 0, 0, after(line, finger), False))
    if homeward == "return":
        there, back = [], []
        for rule in rules:
            place, guard, cell, old, new, behind, _ = rule
            if cell == "answer":
                there.append((*rule[:5], B(place), False))
            elif behind == "home":
                there.append((place, ("and", start, ("=", "answer", 0)), *rule[2:]))
            else:
                there.append(rule)
                guard = ("and", start, ("!=", "answer", 0)) if place == "begin" else guard
                back.append((B(behind), guard, cell, new, old, B(place), False))
        rules = there + back
    fingers = [(line, finger) for line in range(len(code.lines)) for finger in range(finger_count(code, line))]
    numbers = {"begin": 0, "home": 1}
    numbers.update({("P", *pair): 2 + at for at, pair in enumerate(fingers)})
    numbers.update({("B", *pair): 2 + len(fingers) + at for at, pair in enumerate(fingers)})
    return tuple((numbers[rule[0]], *rule[1:5], numbers[rule[5]], False) for rule in rules)


class PlaceTest(unittest.TestCase):
    def test_documented(self):
        self.assertEqual((place_of(STEP, 1, 2), finger_at(STEP, 3), finger_at(STEP, 4), finger_at(STEP, 1)), (6, (0, 1), (1, 0), None))

    def test_places(self):
        for code in (STEP, COUNT, FLIP, KINDS, Code((), (), 1, (("fail",),))):
            place = 2
            self.assertEqual((finger_at(code, 0), finger_at(code, 1)), (None, None))
            for line in range(len(code.lines)):
                for finger in range(finger_count(code, line)):
                    self.assertEqual(place_of(code, line, finger), place)
                    self.assertEqual(finger_at(code, place), (line, finger))
                    place += 1
            self.assertEqual(walker(code).places, place)
            self.assertEqual(walker(code, homeward="return").places, 2 * place - 2)
        self.assertEqual(place_of(code=KINDS, line=1, finger=3), 8)
        self.assertEqual(finger_at(code=KINDS, place=8), (1, 3))
        self.assertTrue(is_plain(finger_at(KINDS, 8)))


class FrameTest(unittest.TestCase):
    def test_frame(self):
        for homeward in ("tour", "return"):
            book = walker(KINDS, homeward=homeward)
            self.assertIs(type(book), Book)
            self.assertEqual((book.given, book.cells), ((("g", 3),), (("x", 2, 1), ("answer", 7, 0))))
            self.assertEqual((book.helpers, book.first, book.last, book.start), ((), 0, 1, (0, (1, 0))))
            self.assertTrue(is_plain(tuple(rule[:6] for rule in book.rules)))
            self.assertTrue(all(rule[6] is False for rule in book))
        bare = walker(Code((), (), 9, (("fail",),) * 24))
        self.assertEqual((bare.cells, bare.given, bare.start), ((("answer", 34, 0),), (), (0, (0,))))

    def test_arguments(self):
        self.assertTrue(walker(KINDS) == walker(code=KINDS, rotation=None, homeward="tour"))
        self.assertTrue(walker(KINDS) == walker(KINDS, rotation=Rotation(KINDS)))
        self.assertFalse(walker(KINDS) == walker(KINDS, homeward="return"))
        with self.assertRaises(TypeError):
            walker(KINDS, Rotation(KINDS))
        other = Code(KINDS.given, KINDS.cells, KINDS.answers, KINDS.lines, KINDS.helpers, KINDS.entry)
        turned = Rotation(other, TURNED_ROWS)
        self.assertTrue(walker(KINDS, rotation=turned) == walker(other, rotation=turned))

    def test_helpers(self):
        one = Code((("k", 2),), (("x", 2, 0),), 2, (("set", "x", "k", 1), ("stop", "x")))
        two = Code((), (), 9, (("stop", ("call", "one", (1,))),), (("one", one), ("x", FLIP)))
        code = Code((), (("x", 3, 0),), 3, (("set", "x", ("call", "one", (0,)), 1), ("stop", ("call", "two", ()))),
                    (("two", two), ("one", one)))
        for book in (walker(code), walker(code, homeward="return"), walker(code, rotation=lean_rotation(code))):
            self.assertTrue(book.helpers == (("two", walker(two)), ("one", walker(one))))
            self.assertTrue(book.helpers[0][1].helpers == (("one", walker(one)), ("x", walker(FLIP))))
            self.assertIs(type(book.helpers), tuple)
            self.assertTrue(all(type(pair) is tuple and type(pair[1]) is Book for pair in book.helpers))
            self.assertEqual(book.room, 2 + 1 + 2)
        self.assertEqual([walker(one).call_value((k,)) for k in (-1, 0, 1, 2)], [one.call_value((k,)) for k in (-1, 0, 1, 2)])

    def test_room(self):
        low = FLIP
        above = Code((), (), 2, (("pick", ("!=", ("call", "low", ()), 0), (1, 0)), ("stop", 1)), (("low", low),))
        top = Code((), (), 1, (("pick", ("!=", ("call", "above", ()), 0), (1, 0)), ("stop", 0)), (("above", above),))
        self.assertEqual([walker(code).room for code in (low, above, top)], [2, 3, 4])


class RulesTest(unittest.TestCase):
    def test_every_kind(self):
        self.assertEqual(walker(KINDS).rules, KINDS_RULES)
        self.assertEqual(walker(KINDS, rotation=Rotation(KINDS, TURNED_ROWS), homeward="return").rules, TURNED_RULES)

    def test_documented(self):
        book = walker(STEP)
        self.assertEqual((book.places, len(book), book.rules[1]), (7, 12, (2, 1, "x", 0, ("+", 0, 1), 6, False)))
        book = walker(STEP, homeward="return")
        self.assertEqual((book.places, len(book), book.rules[2], book.rules[12]), (
            12, 20, (2, 1, "x", 1, ("+", 1, 1), 4, False), (7, ("and", ("=", "x", 0), ("!=", "answer", 0)), None, 0, 0, 1, False),
        ))

    def test_without_work_cells(self):
        code = Code((), (), 1, (("pick", 5, (0,)),))
        self.assertEqual(walker(code).rules, (
            (0, 1, None, 0, 0, 4, False),
            (2, ("=", 5, 0), None, 0, 0, 2, False),
            (2, ("or", ("<", 5, 0), (">=", 5, 1)), "answer", 0, 2, 3, False),
            (3, 1, None, 0, 0, 1, False),
            (3, ("not", 1), None, 0, 0, 4, False),
            (4, ("=", 5, 0), None, 0, 0, 3, False),
            (4, ("!=", 5, 0), None, 0, 0, 2, False),
        ))
        self.assertEqual(walker(code, rotation=lean_rotation(code), homeward="return").rules, (
            (0, 1, None, 0, 0, 2, False),
            (2, ("or", ("<", 5, 0), (">=", 5, 1)), "answer", 0, 2, 5, False),
            (3, ("and", 1, ("=", "answer", 0)), None, 0, 0, 1, False),
            (3, ("not", 1), None, 0, 0, 2, False),
            (5, ("and", 1, ("!=", "answer", 0)), None, 0, 0, 1, False),
            (5, ("not", 1), None, 0, 0, 6, False),
        ))

    def test_at_start(self):
        cells = (("a", 2, 1), ("b", 3, 2), ("c", 2, 0), ("d", 1, 0))
        code = Code((("g", 2),), cells, 1, (("fail",),))
        start = ("and", ("and", ("and", ("=", "a", 1), ("=", "b", 2)), ("=", "c", 0)), ("=", "d", 0))
        self.assertEqual(walker(code).rules, (
            (0, start, None, 0, 0, 2, False), (2, 1, "answer", 0, 2, 3, False), (3, start, None, 0, 0, 1, False),
            (3, ("not", start), None, 0, 0, 2, False),
        ))

    def test_slow_rules_by_chance(self):
        chance = random.Random(57)
        for _ in range(120):
            one = chance_code(chance)
            code = chance_code(chance, (("one", one),) * chance.randrange(2))
            for rotation in rotations_of(chance, code):
                for homeward in ("tour", "return"):
                    book = walker(code, rotation=rotation, homeward=homeward)
                    self.assertEqual(book.rules, slow_rules(code, rotation, homeward))

    def test_largest(self):
        widest = ("mod", wide(30), 8)
        cells = (("x", 8, 0), ("y", 2, 0), ("z", 2, 0), ("w", 2, 0))
        lines = tuple(("set", "x", widest, line) for line in range(24))
        for homeward, places in (("tour", 219), ("return", 436)):
            book = walker(Code((("g", 8), ("h", 4)), cells, 9, lines), homeward=homeward)
            self.assertEqual(book.places, places)


class WalkTest(unittest.TestCase):
    """Points 58 to 60, at every given, in both ways homeward and in several rotations."""

    def check_steps(self, code, given, rotation, book):
        """Point 58: each step goes to the pointer to which `onward` leads."""
        size = book.cells[-1][1]
        for state in all_states(code):
            for finger in rotation.rows[state[0]]:
                there, turned = slow_onward(code, given, (state, finger), rotation)
                for answer in range(size):
                    told = (place_of(code, there[0], turned), there[1] + (answer,))
                    number = end_number(code, given, state)
                    if finger == 0 and number is not None:
                        told = told[:1] + (there[1] + (number,),) if answer == 0 else None
                    if finger_slot(code, state[0], finger) is None and finger == 1 and state == start_state(code):
                        told = (1, state[1] + (answer,))
                    self.assertEqual(book_next(book, given, (place_of(code, state[0], finger), state[1] + (answer,))), told)

    def check_walk(self, code, given, rotation, homeward):
        """Points 59 and 60: where it ends, behind how many steps, and how answers are checked."""
        book = walker(code, rotation=rotation, homeward=homeward)
        starts, number = start_state(code)[1], outcome(code, given)
        tour = slow_tour(code, given, rotation)
        ends = [at for at, (state, finger) in enumerate(tour) if finger == 0 and end_number(code, given, state) is not None]
        steps = 2 * ends[0] + 1 if homeward == "return" and ends else len(tour) + 1
        self.assertEqual(ends == [], number == 0)
        self.assertEqual(course(book, given), ("ends", steps, (1, starts + (number,))))
        self.assertEqual(advance(book, given, book.start, steps), (1, starts + (number,)))
        self.assertIsNone(advance(book, given, book.start, steps + 1))
        self.assertEqual(book.call_value(given), number)
        for guess in range(book.cells[-1][1]):
            told = course(~book, given, (1, starts + (guess,)))
            self.assertEqual(told[0], "ends")
            self.assertIs(told[2] == (0, starts + (0,)), guess == number)
            self.assertEqual(told[2][1][-1], 0 if guess == number else guess)

    def test_steps(self):
        chance = random.Random(58)
        for code in (STEP, COUNT, FLIP, KINDS):
            for rotation in rotations_of(chance, code):
                for given in givens_of(code):
                    self.check_steps(code, given, rotation, walker(code, rotation=rotation))
        for _ in range(40):
            code = chance_code(chance)
            rotation = chance.choice(rotations_of(chance, code))
            for given in givens_of(code):
                self.check_steps(code, given, rotation, walker(code, rotation=rotation))

    def test_walks(self):
        chance = random.Random(59)
        codes = [STEP, COUNT, FLIP, KINDS] + [chance_code(chance) for _ in range(40)]
        never = 0
        for code in codes:
            for given in givens_of(code):
                never += outcome(code, given) == 0
                for rotation in rotations_of(chance, code):
                    for homeward in ("tour", "return"):
                        self.check_walk(code, given, rotation, homeward)
        self.assertGreater(never, 15)

    def test_walks_with_helpers(self):
        chance = random.Random(60)
        for _ in range(20):
            one = chance_code(chance)
            two = chance_code(chance, (("a", one), ("b", chance_code(chance))))
            code = chance_code(chance, (("one", one), ("two", two)))
            for given in givens_of(code):
                for homeward in ("tour", "return"):
                    self.check_walk(code, given, Rotation(code), homeward)
                    self.check_walk(code, given, lean_rotation(code), homeward)

    def test_reversible(self):
        chance = random.Random(54)
        small = [code for code in (chance_code(chance) for _ in range(60)) if code.state_count <= 12]
        self.assertGreater(len(small), 10)
        for code in (STEP, FLIP, KINDS, *small):
            rotation = chance.choice(rotations_of(chance, code))
            for homeward in ("tour", "return"):
                check_reversible(self, walker(code, rotation=rotation, homeward=homeward))

    def test_the_tour_has_every_finger_if_the_run_ends(self):
        # Everything leads to one end, so each finger of the rows is passed at every state.
        for rotation in (Rotation(COUNT), lean_rotation(COUNT)):
            component = {state for state in all_states(COUNT) if outcome(COUNT, (), state) == outcome(COUNT, ())}
            fingers = sum(len(rotation.rows[line]) for line, _ in component)
            self.assertEqual(course(walker(COUNT, rotation=rotation), ())[1], fingers + 1)

    def test_documented(self):
        self.assertEqual(course(walker(STEP), ()), ("ends", 6, (1, (0, 2))))
        book = walker(STEP)
        state = advance(book, (), book.start, 3)
        self.assertEqual((state, advance(~book, (), state, 3), advance(~book, (), state, 4)), ((4, (1, 0)), (0, (0, 0)), None))
        self.assertEqual((course(~book, (), (1, (0, 2))), course(~book, (), (1, (0, 1)))),
                         (("ends", 6, (0, (0, 0))), ("ends", 2, (5, (1, 1)))))
        lean = lean_rotation(STEP)
        self.assertEqual([course(walker(STEP, **more), ())[1] for more in (
            {}, {"rotation": lean}, {"homeward": "return"}, {"rotation": lean, "homeward": "return"},
        )], [6, 5, 7, 5])
        self.assertEqual([course(walker(COUNT, **more), ())[1:] for more in ({}, {"homeward": "return"})],
                         [(24, (1, (0, 3))), (33, (1, (0, 3)))])
        turned = Rotation(FLIP, ((0, 2, 1, 3),))
        self.assertEqual([course(walker(FLIP, rotation=rotation), ())[1:] for rotation in (None, turned)],
                         [(6, (1, (0, 0))), (5, (1, (0, 0)))])

    def test_halfway_and_back(self):
        book = walker(KINDS, homeward="return")
        for given in givens_of(KINDS):
            _, steps, final = course(book, given)
            for many in range(steps + 1):
                state = advance(book, given, book.start, many)
                self.assertEqual(advance(~book, given, state, many), book.start)
                self.assertEqual(advance(book, given, state, steps - many), final)
                self.assertEqual(course(~book, given, state), ("ends", many, book.start))

    def test_rules_lead_back_one_by_one(self):
        book = walker(COUNT)
        back = ~book
        for state in states_of(book):
            for rule, other in zip(book, back):
                result = rule_result(book, (), state, rule)
                if result is not None:
                    self.assertEqual(rule_result(back, (), result, other), state)

    def test_equal_questions(self):
        fields = ("given", "cells", "answers", "lines", "helpers", "entry")
        before = [getattr(KINDS, field) for field in fields]
        first = walker(KINDS)
        told = [course(first, given) for given in givens_of(KINDS)]
        walker(COUNT)
        self.assertTrue(first == walker(KINDS))
        self.assertEqual([course(first, given) for given in givens_of(KINDS)], told)
        self.assertEqual([getattr(KINDS, field) for field in fields], before)


class LibraryTest(unittest.TestCase):
    def test_documented(self):
        library = read_library(
            "program dial\ngiven knob 4\ncell pin 4 1\nanswers 1\nbegin\n  while pin != knob\n    set pin to (pin + 2) mod 4\n"
            "  end\n  stop 0\nend\n\nprogram safe\ngiven code 4\ncell left 4 3\nanswers 4\nprocedure turn\n  if left = 0\n    fail\n"
            "  else\n    set left to left - 1\n  end\nend\nbegin\n  while dial(left) != 0 or left = code\n    do turn\n  end\n"
            "  stop left\nend"
        )
        code = code_of(library, "safe")
        for homeward, rotation in itertools.product(("tour", "return"), (None, lean_rotation(code))):
            book = walker(code, rotation=rotation, homeward=homeward)
            self.assertEqual([course(book, (k,))[2] for k in range(4)], [(1, (3, number)) for number in (3, 3, 1, 3)])


class QuickTest(unittest.TestCase):
    def test_the_largest_codes(self):
        # From every state the run ends: the tour has every finger of all 1536 states.
        code = LARGEST
        book = walker(code)
        steps = 64 * sum(finger_count(code, line) for line in range(24)) - 63 * finger_count(code, 23) + 1
        for given in givens_of(code)[::5]:
            self.assertEqual(course(book, given), ("ends", steps, (1, (0, 0, 1 + given[1] + given[0] // 2))))
        self.assertEqual([book.call_value(given) for given in givens_of(code)], [code.call_value(given) for given in givens_of(code)])

    def test_codes_that_ask_codes_that_ask_codes(self):
        made = Code((("k", 2),), (), 2, (("stop", "k"),))
        for _ in range(11):
            lines = (
                ("set", "x", ("+", "x", ("-", ("call", "h", ("k",)), "k")), 1), ("pick", ("=", "x", 7), (0, 2)),
                ("stop", ("-", ("call", "h", ("k",)), 1)),
            )
            made = Code((("k", 2),), (("x", 8, 0),), 2, lines, (("h", made),))
        for homeward in ("tour", "return"):
            book = walker(made, rotation=lean_rotation(made), homeward=homeward)
            self.assertEqual([book.call_value((k,)) for k in (0, 1, 2)], [1, 2, -1])
            self.assertEqual(book.room, 23)

    def test_many_codes_that_ask_one_another(self):
        made = Code((("k", 2),), (("x", 8, 0), ("y", 8, 0)), 2, (("stop", "k"),) * 24)
        while made.answers < 7:
            lines = tuple(("set", "x", ("mod", ("+", "x", ("call", "a", ("k",))), 8), line + 1) for line in range(23))
            made = Code((("k", 2),), (("x", 8, 0), ("y", 8, 0)), made.answers + 1, lines + (("stop", ("call", "b", ("k",))),),
                        (("a", made), ("b", made)))
        book = walker(made)
        self.assertEqual([book.call_value((k,)) for k in (0, 1)], [made.call_value((k,)) for k in (0, 1)])


if __name__ == "__main__":
    unittest.main()
