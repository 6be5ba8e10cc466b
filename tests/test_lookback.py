"""Looking back: points 62 to 65."""

import itertools
import random
import unittest
from unittest import mock

from sameroom.books import Book
from sameroom.codes import Code, started
from sameroom.expressions import replaced
from sameroom.fingers import predecessors
from sameroom.lookback import comes_back, first_origins, givens_to, leads_to, origins, origins_book
from sameroom.plain import all_states, end_number, next_state, outcome, run_states, start_state
from sameroom.running import advance, course, shown
from sameroom.slots import finger_count, finger_slot, slot_finger
from sameroom.walkers import finger_at, place_of, walker
from tests.helping import BARE, COUNT, FLIP, KINDS, LARGEST, STEP, chance_code, check_reversible, givens_of, is_plain, small_codes

ROUND = Code((("g", 2),), (), 1, (("pick", "g", (0, 1)), ("pick", 0, (0,))))
THREE = Code((("g", 2),), (("a", 2, 1), ("b", 3, 2), ("c", 2, 0)), 2, (
    ("set", "b", ("mod", ("+", "b", "a"), 3), 1), ("pick", ("+", "b", "g"), (2, 0, 0, 3)), ("set", "a", ("-", 1, "a"), 0), ("stop", "c"),
), (), 2)
# The rules of the origins book of KINDS for the state (0, (1,)), by hand from the words of the document.
HERE = ("=", "x", 1)
OUT_SET = ("or", ("<", ("-", "g", "x"), 0), (">=", ("-", "g", "x"), 2))
OUT_PICK = ("or", ("<", "g", 0), (">=", "g", 3))
SET_RULES = (
    (0, HERE, None, 0, 0, 3, False),
    (2, HERE, None, 0, 0, 1, False),
    (2, 1, "x", 0, ("-", "g", 0), 8, False),
    (2, ("not", 1), "x", 1, ("-", "g", 1), 5, False),
    (2, ("and", OUT_SET, ("not", HERE)), None, 0, 0, 3, False),
    (3, ("=", "g", 0), None, 0, 0, 6, True),
    (3, ("!=", "g", 0), None, 0, 0, 4, False),
    (4, ("=", "g", 1), None, 0, 0, 6, True),
    (4, ("!=", "g", 1), None, 0, 0, 2, False),
    (5, ("=", "g", 0), None, 0, 0, 4, False),
    (5, ("=", "g", 1), None, 0, 0, 2, False),
    (5, ("=", "g", 2), None, 0, 0, 9, False),
    (5, OUT_PICK, None, 0, 0, 6, False),
    (6, 1, None, 0, 0, 7, False),
    (7, 1, "x", ("-", "g", 0), 0, 3, True),
    (7, ("!=", "x", ("-", "g", 0)), None, 0, 0, 8, False),
    (8, ("not", 1), "x", ("-", "g", 1), 1, 3, True),
    (8, ("and", 1, ("=", "x", ("-", "g", 1))), "mark", 0, 1, 5, False),
    (8, ("!=", "x", ("-", "g", 1)), None, 0, 0, 5, False),
    (9, 1, None, 0, 0, 10, False),
    (10, ("=", "g", 2), None, 0, 0, 6, True),
    (10, ("!=", "g", 2), None, 0, 0, 9, False),
    (11, 1, None, 0, 0, 11, False),
)


def all_have(pairs):
    """That each cell has its value."""
    if not pairs:
        return 1
    if len(pairs) == 1:
        return ("=", *pairs[0])
    return ("and", all_have(pairs[:-1]), ("=", *pairs[-1]))


def slow_rules(code, target):
    """The rules of an origins book, once more from the words of point 63."""
    names = [name for name, _, _ in code.cells]
    sizes = {name: size for name, size, _ in code.cells}
    worths = dict(zip(names, target[1]))
    here = all_have(tuple(worths.items()))

    def after(line, finger):
        return place_of(code, line, (finger + 1) % finger_count(code, line))

    def rest(cell):
        return all_have(tuple(pair for pair in worths.items() if pair[0] != cell))

    def out(e, s):
        return ("or", ("<", e, 0), (">=", e, s))

    rules = [(0, here, None, 0, 0, after(target[0], 0), False)]
    for line, row in enumerate(code.lines):
        at_target = line == target[0]
        for finger in range(finger_count(code, line)):
            place, slot = place_of(code, line, finger), finger_slot(code, line, finger)
            if finger == 0:
                if at_target:
                    rules.append((place, here, None, 0, 0, 1, False))
                past = 1
                if row[0] == "set":
                    for w in range(sizes[row[1]]):
                        guard = ("not", rest(row[1])) if at_target and worths[row[1]] == w else 1
                        goes = after(row[3], slot_finger(code, row[3], (line, 0, w)))
                        rules.append((place, guard, row[1], w, replaced(row[2], row[1], w), goes, False))
                    past = out(row[2], sizes[row[1]])
                if row[0] == "pick":
                    for k, goal in enumerate(row[2]):
                        guard = ("and", ("=", row[1], k), ("not", here)) if at_target else ("=", row[1], k)
                        rules.append((place, guard, None, 0, 0, after(goal, slot_finger(code, goal, (line, k, 0))), False))
                    past = out(row[1], len(row[2]))
                if at_target:
                    past = ("not", here) if past == 1 else ("and", past, ("not", here))
                rules.append((place, past, None, 0, 0, after(line, 0), False))
                continue
            if slot is None:
                rules.append((place, 1, None, 0, 0, after(line, 1), False))
                continue
            source, arm, old = slot
            other, back = code.lines[source], after(source, 0)
            if other[0] == "set":
                x, b = other[1], replaced(other[2], other[1], old)
                cut = source == target[0] and worths[x] == old
                rules.append((place, ("not", rest(x)) if cut else 1, x, b, old, back, True))
                if cut:
                    rules.append((place, ("and", rest(x), ("=", x, b)), "mark", 0, 1, after(line, finger), False))
                rules.append((place, ("!=", x, b), None, 0, 0, after(line, finger), False))
            else:
                picks = ("=", other[1], arm)
                cut = source == target[0]
                rules.append((place, ("and", picks, ("not", here)) if cut else picks, None, 0, 0, back, True))
                if cut:
                    rules.append((place, ("and", picks, here), "mark", 0, 1, after(line, finger), False))
                rules.append((place, ("!=", other[1], arm), None, 0, 0, after(line, finger), False))
    return tuple(rules)


def slow_origins(code, given, target):
    """The origins in the order in which a walk round them finds them, without any book."""
    found = []

    def look_behind(state):
        for before in predecessors(code, given, state):
            if before != target:
                found.append(before)
                look_behind(before)
    look_behind(target)
    return found


class BookTest(unittest.TestCase):
    def test_frame(self):
        for target in all_states(THREE):
            book = origins_book(THREE, target)
            walking = walker(THREE)
            self.assertIs(type(book), Book)
            self.assertEqual((book.given, book.helpers, book.places, book.first, book.last), (walking.given, (), walking.places, 0, 1))
            self.assertEqual(book.cells, (("a", 2, target[1][0]), ("b", 3, target[1][1]), ("c", 2, target[1][2]), ("mark", 2, 0)))
            self.assertEqual(book.start, (0, target[1] + (0,)))
            self.assertTrue(is_plain(tuple(rule[:6] for rule in book)))
            self.assertTrue(all(rule[6] is True or rule[6] is False for rule in book))
        self.assertEqual(origins_book(BARE, (0, ())).cells, (("mark", 2, 0),))
        self.assertTrue(origins_book(state=(1, (1,)), code=KINDS) == origins_book(KINDS, (1, (1,))))

    def test_rules_by_hand(self):
        self.assertEqual(origins_book(KINDS, (0, (1,))).rules, SET_RULES)
        self.assertEqual(origins_book(BARE, (0, ())).rules, (
            (0, 1, None, 0, 0, 3, False), (2, 1, None, 0, 0, 1, False), (2, ("not", 1), None, 0, 0, 3, False), (3, 1, None, 0, 0, 2, False),
        ))
        # Line 0 of ROUND has finger 0, the entry, its own arm 0 and the arm of line 1.
        self.assertEqual(origins_book(ROUND, (0, ())).rules, (
            (0, 1, None, 0, 0, 3, False),
            (2, 1, None, 0, 0, 1, False),
            (2, ("and", ("=", "g", 0), ("not", 1)), None, 0, 0, 5, False),
            (2, ("and", ("=", "g", 1), ("not", 1)), None, 0, 0, 6, False),
            (2, ("and", ("or", ("<", "g", 0), (">=", "g", 2)), ("not", 1)), None, 0, 0, 3, False),
            (3, 1, None, 0, 0, 4, False),
            (4, ("and", ("=", "g", 0), ("not", 1)), None, 0, 0, 2 + 1, True),
            (4, ("and", ("=", "g", 0), 1), "mark", 0, 1, 5, False),
            (4, ("!=", "g", 0), None, 0, 0, 5, False),
            (5, ("=", 0, 0), None, 0, 0, 7, True),
            (5, ("!=", 0, 0), None, 0, 0, 2, False),
            (6, ("=", 0, 0), None, 0, 0, 2, False),
            (6, ("or", ("<", 0, 0), (">=", 0, 1)), None, 0, 0, 7, False),
            (7, ("and", ("=", "g", 1), ("not", 1)), None, 0, 0, 3, True),
            (7, ("and", ("=", "g", 1), 1), "mark", 0, 1, 6, False),
            (7, ("!=", "g", 1), None, 0, 0, 6, False),
        ))

    def test_stop_as_target(self):
        book = origins_book(STEP, (1, (0,)))
        self.assertEqual([rule for rule in book if rule[0] == 4], [
            (4, ("=", "x", 0), None, 0, 0, 1, False), (4, ("not", ("=", "x", 0)), None, 0, 0, 5, False),
        ])
        self.assertEqual(origins_book(STEP, (0, (0,))).rules[-5], (5, ("not", 1), "x", ("+", 0, 1), 0, 3, True))

    def test_several_cells(self):
        book = origins_book(THREE, (0, (1, 2, 0)))
        here = ("and", ("and", ("=", "a", 1), ("=", "b", 2)), ("=", "c", 0))
        rest = ("and", ("=", "a", 1), ("=", "c", 0))
        self.assertEqual(book.rules[0][1], here)
        self.assertEqual([rule[1] for rule in book if rule[0] == 2 and rule[2] == "b"], [1, 1, ("not", rest)])
        marks = [rule for rule in book if rule[2] == "mark"]
        self.assertEqual([rule[1] for rule in marks], [("and", rest, ("=", "b", ("mod", ("+", 2, "a"), 3)))])

    def test_slow_rules(self):
        for code in (STEP, COUNT, FLIP, KINDS, BARE, ROUND, THREE):
            for target in all_states(code):
                self.assertEqual(origins_book(code, target).rules, slow_rules(code, target))
        chance = random.Random(63)
        for _ in range(120):
            code = chance_code(chance, (("one", chance_code(chance)),) * chance.randrange(2))
            for target in chance.choices(list(all_states(code)), k=6):
                self.assertEqual(origins_book(code, target).rules, slow_rules(code, target))

    def test_helpers(self):
        one = Code((("k", 2),), (("x", 2, 0),), 2, (("set", "x", "k", 1), ("stop", "x")))
        two = Code((), (), 9, (("stop", ("call", "one", (1,))),), (("one", one), ("x", FLIP)))
        code = Code((), (("x", 3, 0),), 3, (("set", "x", ("call", "one", (0,)), 1), ("stop", ("call", "two", ()))), (("two", two), ("one", one)))
        book = origins_book(code, (1, (1,)))
        self.assertTrue(book.helpers == (("two", walker(two)), ("one", walker(one))))
        self.assertTrue(book.helpers[0][1].helpers == (("one", walker(one)), ("x", walker(FLIP))))
        self.assertEqual(list(origins(code, (), (1, (1,)))), [(0, (0,)), (0, (1,)), (0, (2,))])

    def test_documented(self):
        book = origins_book(FLIP, (0, (1,)))
        self.assertEqual((book.places, len(book), book.rules[9]), (6, 11, (5, ("and", 1, ("=", "x", ("-", 1, 1))), "mark", 0, 1, 2, False)))
        self.assertEqual(course(book, ()), ("ends", 9, (1, (1, 1))))


class RunTest(unittest.TestCase):
    """Point 64, for every given and every state."""

    def check(self, code, given, target):
        book = origins_book(code, target)
        met = [state for state in all_states(code) if state != target and target in run_states(code, given, state)]
        told = [((finger_at(code, place)[0], values[:-1]), values[-1]) for place, values in shown(book, given)]
        self.assertEqual(sorted(state for state, _ in told), met)
        self.assertEqual([state for state, _ in told], slow_origins(code, given, target))
        after = next_state(code, given, target)
        back = after is not None and target in run_states(code, given, after)
        self.assertTrue({mark for _, mark in told} <= {0, int(back)})
        steps = 1 + sum(finger_count(code, state[0]) for state in (target, *met))
        self.assertEqual(course(book, given), ("ends", steps, (1, target[1] + (int(back),))))
        self.assertEqual(course(~book, given, (1, target[1] + (int(back),))), ("ends", steps, book.start))
        self.assertEqual(list(origins(code, given, target)), [state for state, _ in told])
        self.assertIs(comes_back(code, given, target), back)
        first = [state for state, _ in told if predecessors(code, given, state) == ()]
        self.assertEqual(list(first_origins(code, given, target)), first)
        for state in all_states(code):
            self.assertIs(leads_to(code, given, state, target), state == target or state in met)
        return met

    def check_all(self, code):
        for given in givens_of(code):
            for target in all_states(code):
                self.check(code, given, target)

    def test_codes(self):
        for code in (STEP, COUNT, FLIP, KINDS, BARE, ROUND, THREE):
            self.check_all(code)

    def test_by_chance(self):
        for code in small_codes(64, 40, 36):
            self.check_all(code)

    def test_with_helpers(self):
        chance = random.Random(65)
        never = Code((("k", 2),), (), 1, (("pick", 0, (0,)),))
        for _ in range(15):
            one = chance_code(chance, (("never", never),))
            code = chance_code(chance, (("never", never), ("one", one)))
            for given in givens_of(code):
                for target in chance.choices(list(all_states(code)), k=5):
                    self.check(code, given, target)

    def test_reversible(self):
        chance = random.Random(66)
        for code in (STEP, FLIP, BARE, ROUND, *small_codes(66, 20, 12)):
            check_reversible(self, origins_book(code, chance.choice(list(all_states(code)))))
        check_reversible(self, origins_book(COUNT, (2, (2,))))
        check_reversible(self, origins_book(KINDS, (0, (1,))))

    def test_halfway_and_back(self):
        book = origins_book(COUNT, (1, (2,)))
        _, steps, final = course(book, ())
        for many in range(steps + 1):
            state = advance(book, (), book.start, many)
            self.assertEqual(advance(~book, (), state, many), book.start)
            self.assertEqual(advance(book, (), state, steps - many), final)

    def test_none_and_many(self):
        # Nothing leads to line 0; all states lead to the last one.
        code = Code((), (("x", 4, 0),), 4, (("set", "x", ("+", 0, "x"), 1), ("set", "x", 3, 2), ("stop", "x")))
        self.assertEqual(self.check(code, (), (0, (2,))), [])
        self.assertEqual(list(origins(code, (), (0, (2,)))), [])
        self.assertEqual(list(first_origins(code, (), (0, (2,)))), [])
        self.assertEqual(list(origins(code, (), (2, (3,)))), [state for x in range(4) for state in ((1, (x,)), (0, (x,)))])
        self.assertEqual(list(first_origins(code, (), (2, (3,)))), [(0, (x,)) for x in range(4)])

    def test_a_state_that_leads_to_itself(self):
        code = Code((), (("x", 2, 0),), 1, (("set", "x", "x", 0),))
        for x in (0, 1):
            self.assertEqual(self.check(code, (), (0, (x,))), [])
            self.assertIs(comes_back(code, (), (0, (x,))), True)
            self.assertEqual(course(origins_book(code, (0, (x,))), ())[2], (1, (x, 1)))
        self.assertIs(leads_to(code, (), (0, (0,)), (0, (1,))), False)
        self.assertIs(leads_to(code, (), (0, (0,)), (0, (0,))), True)

    def test_documented(self):
        self.assertEqual(list(origins(COUNT, (), (2, (2,)))), [(1, (2,)), (0, (1,)), (1, (1,)), (0, (0,)), (1, (0,)), (0, (2,))])
        self.assertIs(comes_back(FLIP, (), (0, (1,))), True)
        self.assertEqual(list(first_origins(COUNT, (), (2, (2,)))), [(0, (2,))])
        self.assertEqual((leads_to(COUNT, (), (0, (2,)), (1, (1,))), leads_to(COUNT, (), (1, (1,)), (0, (2,)))), (True, False))


class GivensTest(unittest.TestCase):
    def test_documented(self):
        code = Code((("k", 3),), (("x", 3, 0),), 3, (("set", "x", "k", 1), ("stop", "x")))
        self.assertEqual((givens_to(code, (1, (2,))), givens_to(code, (0, (0,)))), (((2,),), ((0,), (1,), (2,))))
        self.assertEqual((givens_to(code, (0, (1,))), givens_to(state=(1, (1,)), code=code)), ((), ((1,),)))
        self.assertTrue(is_plain(givens_to(code, (1, (2,)))))

    def test_without_given_cells(self):
        self.assertEqual(givens_to(COUNT, (2, (2,))), ((),))
        self.assertEqual(givens_to(COUNT, (2, (1,))), ())

    def test_by_chance(self):
        chance = random.Random(67)
        for code in (KINDS, THREE, ROUND, *small_codes(67, 50, 60)):
            for target in chance.choices(list(all_states(code)), k=8):
                told = tuple(given for given in givens_of(code) if target in run_states(code, given, start_state(code)))
                self.assertEqual(givens_to(code, target), told)

    def test_several_given_cells(self):
        code = Code((("a", 2), ("b", 3)), (("x", 6, 5),), 6, (("set", "x", ("+", "a", "b"), 1), ("stop", "x")))
        self.assertEqual([givens_to(code, (1, (x,))) for x in range(6)], [
            ((0, 0),), ((0, 1), (1, 0)), ((0, 2), (1, 1)), ((1, 2),), (), (),
        ])


class GeneratorTest(unittest.TestCase):
    def test_arguments_are_looked_at_late(self):
        for function in (origins, first_origins):
            told = function(None, None, None)
            self.assertIs(iter(told), told)
            with self.assertRaises((TypeError, AttributeError)):
                list(told)

    def test_each_origin_when_it_is_asked_for(self):
        asked = []
        ask = Book.carried_out

        def asking(book, given, state):
            asked.append(state)
            return ask(book, given, state)

        lines = tuple(("set", "x", ("mod", ("+", "x", 1), 8), (line + 1) % 24) for line in range(24))
        code = Code((), (("x", 8, 0), ("y", 8, 0)), 1, lines)
        with mock.patch.object(Book, "carried_out", asking):
            for function in (origins, first_origins):
                asked.clear()
                told = function(code, (), (5, (0, 0)))
                self.assertEqual(asked, [])
                if function is origins:
                    for many, origin in enumerate(itertools.islice(told, 5)):
                        self.assertLess(len(asked), 12 * (many + 1))
                    self.assertEqual(origin, (0, (3, 0)))

    def test_two_at_once(self):
        targets = [(2, (2,)), (1, (2,)), (2, (2,)), (0, (1,))]
        for function in (origins, first_origins):
            alone = [list(function(COUNT, (), target)) for target in targets]
            both = [function(COUNT, (), target) for target in targets]
            mixed = [[] for _ in targets]
            for states in itertools.zip_longest(*both):
                comes_back(COUNT, (), (0, (0,)))
                for row, state in zip(mixed, states):
                    if state is not None:
                        row.append(state)
            self.assertEqual(mixed, alone)

    def test_names_and_kinds(self):
        self.assertEqual(list(origins(state=(2, (2,)), given=(), code=COUNT)), list(origins(COUNT, (), (2, (2,)))))
        self.assertEqual(list(first_origins(state=(2, (2,)), given=(), code=COUNT)), [(0, (2,))])
        self.assertIs(comes_back(state=(2, (2,)), given=(), code=COUNT), False)
        self.assertIs(leads_to(two=(2, (2,)), one=(0, (0,)), given=(), code=COUNT), True)
        self.assertTrue(is_plain(tuple(origins(COUNT, (), (2, (2,))))))
        self.assertTrue(is_plain(tuple(first_origins(COUNT, (), (2, (2,))))))

    def test_fields_stay(self):
        fields = ("given", "cells", "answers", "lines", "helpers", "entry")
        before = [getattr(KINDS, field) for field in fields]
        told = [list(origins(KINDS, given, (2, (0,)))) for given in givens_of(KINDS)]
        givens_to(KINDS, (1, (1,)))
        self.assertEqual([list(origins(KINDS, given, (2, (0,)))) for given in givens_of(KINDS)], told)
        self.assertEqual([getattr(KINDS, field) for field in fields], before)

    def test_begun_elsewhere(self):
        """The origins do not depend on where the code begins."""
        for target in all_states(COUNT):
            for state in all_states(COUNT):
                begun = started(COUNT, state)
                self.assertEqual(list(origins(begun, (), target)), list(origins(COUNT, (), target)))
                self.assertEqual(givens_to(begun, target), ((),) if leads_to(COUNT, (), state, target) else ())


class QuickTest(unittest.TestCase):
    def test_largest(self):
        code, end = LARGEST, (23, (0, 7))
        self.assertEqual(len(set(origins(code, (0, 0), end))), 23 * 64)
        self.assertEqual(len(list(origins(code, (7, 3), end))), 23 * 64)
        self.assertEqual(givens_to(code, end), tuple(givens_of(code)))
        self.assertEqual(len(list(first_origins(code, (0, 0), end))),
                         len([state for state in all_states(code) if state[0] < 23 and predecessors(code, (0, 0), state) == ()]))
        self.assertIs(comes_back(code, (0, 0), end), False)
        self.assertEqual(end_number(code, (0, 0), end), outcome(code, (0, 0)))


if __name__ == "__main__":
    unittest.main()
