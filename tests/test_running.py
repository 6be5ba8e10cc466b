"""Running books: points 48 to 51 and 54."""

import inspect
import random
import unittest

from sameroom.books import Book
from sameroom.codes import Code
from sameroom.expressions import names_in
from sameroom.running import advance, book_next, course, rule_applies, rule_result, shown
from tests.helping import chance_expression, givens_of, is_plain, slow_rule_result, states_of

COUNT_RULES = (
    (0, 1, "x", 0, 1, 1, True), (1, ("!=", "x", 2), None, 0, 0, 0, False), (0, 1, "x", 1, 2, 1, True),
    (1, ("=", "x", 2), None, 0, 0, 2, False),
)
COUNT = Book((), (("x", 3, 0),), 3, COUNT_RULES, (), 0, 2)
# Round and round, and every step shows.
ROUND = Book((), (("x", 4, 1), ("y", 2, 1)), 2, tuple(
    (0, 1, "x", value, (value + 1) - 4 * (value == 3), 0, True) for value in range(4)
))


def slow_next(book, given, state):
    """The next state and whether the rule shows, straight from the words of the document."""
    for rule in book.rules:
        result = slow_rule_result(book, given, state, rule)
        if result is not None:
            return result, rule[6]
    return None, False


def slow_course(book, given, state):
    met = []
    while state is not None and state not in met:
        met.append(state)
        state = slow_next(book, given, state)[0]
    return ("ends", len(met) - 1, met[-1]) if state is None else ("cycle", met.index(state), len(met) - met.index(state))


def slow_shown(book, given, state):
    met, shows = [], []
    while state is not None and state not in met:
        met.append(state)
        state, visible = slow_next(book, given, state)
        shows += [state] * visible
    return shows


def chance_rule(chance, cells, names, calls, places):
    guard = chance.choice((1, 1, chance_expression(chance, names, calls, 3)))
    place, after, shows = chance.randrange(places), chance.randrange(places), chance.random() < 0.4
    if chance.random() < 0.3:
        return (place, guard, None, 0, 0, after, shows)
    cell, size, _ = chance.choice(cells)
    others = [name for name in names if name != cell] or [0, 1]
    old, new = [
        chance.choice((chance.randrange(size), ("mod", chance_expression(chance, others, calls, 3), size + 1))) for _ in range(2)
    ]
    return (place, 1 if cell in names_in(guard) else guard, cell, old, new, after, shows)


def chance_book(chance, helpers=()):
    given = (("g", 2), ("k", 3))[:chance.randrange(3)]
    cells = (("x", chance.randrange(1, 5), 0), ("answer", 2, 1), ("z", 3, 2))[:chance.randrange(1, 4)]
    names = [cell[0] for cell in given + cells]
    calls = [(name, len(helper.given)) for name, helper in helpers]
    places = chance.randrange(2, 5)
    rules = tuple(chance_rule(chance, cells, names, calls, places) for _ in range(chance.randrange(0, 14)))
    return Book(given, cells, places, rules, helpers, chance.randrange(places), chance.randrange(places))


class RuleTest(unittest.TestCase):
    def setUp(self):
        self.helper = Book((("k", 3),), (("x", 4, 3),), 2, ((0, ("!=", "k", 2), "x", 3, "k", 1, False),))

    def told(self, rule, given, state):
        book = Book((("g", 8),), (("x", 4, 0), ("mark", 2, 0)), 3, (rule,), (("x", self.helper),))
        told = (rule_applies(book, (given,), state, rule), rule_result(book, (given,), state, rule))
        self.assertEqual(told[1], slow_rule_result(book, (given,), state, rule))
        self.assertIs(told[0], told[1] is not None)
        self.assertTrue(is_plain(told[1]))
        self.assertEqual(book_next(book, (given,), state), told[1])
        return told[1]

    def test_place(self):
        rule = (1, 1, None, 0, 0, 2, False)
        self.assertEqual([self.told(rule, 0, (place, (1, 1))) for place in range(3)], [None, (2, (1, 1)), None])

    def test_guard(self):
        rule = (0, ("-", "g", ("+", "x", "mark")), None, 0, 0, 1, True)
        self.assertEqual([self.told(rule, given, (0, (2, 1))) for given in (0, 2, 3, 4)], [(1, (2, 1))] * 2 + [None, (1, (2, 1))])
        self.assertEqual([self.told((0, guard, None, 0, 0, 0, False), 0, (0, (0, 0))) for guard in (0, 1, 2, -1)],
                         [None] + [(0, (0, 0))] * 3)

    def test_old(self):
        rule = (0, 1, "x", ("+", "g", "mark"), 0, 1, False)
        self.assertEqual([self.told(rule, given, (0, (3, 1))) for given in (0, 1, 2, 3, 4)], [None, None, (1, (0, 1)), None, None])

    def test_new(self):
        rule = (0, 1, "x", 2, ("-", "g", 2), 1, False)
        self.assertEqual([self.told(rule, given, (0, (2, 1))) for given in range(8)],
                         [None, None, (1, (0, 1)), (1, (1, 1)), (1, (2, 1)), (1, (3, 1)), None, None])
        rule = (0, 1, "mark", 0, "x", 0, False)
        self.assertEqual([self.told(rule, 0, (0, (x, 0))) for x in range(4)], [(0, (0, 0)), (0, (1, 1)), None, None])

    def test_all_at_once(self):
        rule = (2, "g", "x", "mark", ("+", "mark", 1), 0, False)
        self.assertEqual(self.told(rule, 1, (2, (1, 1))), (0, (2, 1)))
        for given, state in ((0, (2, (1, 1))), (1, (1, (1, 1))), (1, (2, (0, 1))), (1, (2, (1, 0)))):
            self.assertIsNone(self.told(rule, given, state))

    def test_helpers(self):
        # The helper called x says 0, 1, 3 at 0, 1, 2.
        rule = (0, ("call", "x", (1,)), "x", ("call", "x", ("g",)), ("call", "x", (("call", "x", ("mark",)),)), 1, False)
        self.assertEqual(self.told(rule, 2, (0, (3, 1))), (1, (1, 1)))
        self.assertEqual(self.told(rule, 1, (0, (1, 0))), (1, (0, 0)))
        self.assertIsNone(self.told(rule, 3, (0, (3, 1))))
        self.assertEqual(self.told((0, ("call", "x", (9,)), None, 0, 0, 0, False), 0, (0, (0, 0))), (0, (0, 0)))

    def test_by_name(self):
        rule = COUNT.rules[0]
        self.assertIs(rule_applies(book=COUNT, given=(), state=(0, (0,)), rule=rule), True)
        self.assertIs(rule_applies(book=COUNT, given=(), state=(0, (1,)), rule=rule), False)
        self.assertEqual(rule_result(book=COUNT, given=(), state=(0, (0,)), rule=rule), (1, (1,)))
        self.assertEqual(book_next(book=COUNT, given=(), state=(0, (0,))), (1, (1,)))


class NextTest(unittest.TestCase):
    def test_the_first_that_applies(self):
        book = Book((("g", 4),), (("x", 2, 0),), 4, (
            (0, 0, None, 0, 0, 3, False), (1, 1, None, 0, 0, 3, False), (0, ("=", "g", 1), None, 0, 0, 1, True),
            (0, ("<", "g", 2), "x", 0, 1, 2, False), (0, ("<", "g", 3), None, 0, 0, 3, False), (0, ("=", "g", 0), None, 0, 0, 1, False),
        ))
        self.assertEqual([book_next(book, (given,), (0, (0,))) for given in range(4)], [(2, (1,)), (1, (0,)), (3, (0,)), None])
        self.assertEqual([book_next(book, (given,), (0, (1,))) for given in range(4)], [(3, (1,)), (1, (1,)), (3, (1,)), None])
        self.assertEqual([book_next(book, (0,), (place, (0,))) for place in (1, 2, 3)], [(3, (0,)), None, None])
        self.assertEqual([list(shown(book, (given,))) for given in range(4)], [[], [(1, (0,))], [], []])

    def test_no_rules(self):
        book = Book((), (("x", 2, 1),), 2, ())
        self.assertIsNone(book_next(book, (), (0, (1,))))
        self.assertEqual((course(book, ()), list(shown(book, ()))), (("ends", 0, (0, (1,))), []))


class CourseTest(unittest.TestCase):
    def test_ends(self):
        self.assertEqual(course(COUNT, ()), ("ends", 4, (2, (2,))))
        self.assertEqual(course(COUNT, (), (2, (0,))), ("ends", 0, (2, (0,))))
        self.assertEqual(course(COUNT, (), (0, (2,))), ("ends", 0, (0, (2,))))
        self.assertEqual(course(COUNT, (), (1, (1,))), ("ends", 3, (2, (2,))))
        self.assertEqual(course(book=COUNT, given=(), state=None), ("ends", 4, (2, (2,))))
        self.assertTrue(is_plain(course(COUNT, ())))

    def test_back_to_the_beginning(self):
        self.assertEqual(course(ROUND, ()), ("cycle", 0, 4))
        self.assertEqual(course(Book((), (("x", 2, 0),), 2, ((0, 1, None, 0, 0, 0, False),)), ()), ("cycle", 0, 1))
        self.assertTrue(is_plain(course(ROUND, ())))

    def test_back_to_a_later_state(self):
        book = Book((), (("x", 40, 0),), 2, tuple((0, 1, "x", value, value + 1, 0, False) for value in range(39)) + (
            (0, 1, "x", 39, 30, 0, True),
        ))
        self.assertEqual(course(book, ()), ("cycle", 30, 10))
        self.assertEqual(course(book, (), (0, (29,))), ("cycle", 1, 10))
        self.assertEqual(course(book, (), (0, (35,))), ("cycle", 0, 10))
        self.assertEqual(list(shown(book, ())), [(0, (30,))])
        self.assertEqual(course(book, (), (1, (35,))), ("ends", 0, (1, (35,))))

    def test_given(self):
        book = Book((("g", 3),), (("x", 3, 0),), 2, ((0, 1, "x", 0, "g", 0, True), (0, ("=", "g", 2), "x", 2, 1, 1, True)))
        self.assertEqual([course(book, (given,)) for given in range(3)], [("cycle", 0, 1), ("ends", 1, (0, (1,))), ("ends", 2, (1, (1,)))])
        self.assertEqual([list(shown(book, (given,))) for given in range(3)], [[(0, (0,))], [(0, (1,))], [(0, (2,)), (1, (1,))]])

    def test_long_runs(self):
        cells = tuple((name, 10, 0) for name in ("a", "b", "c", "d"))
        low = {"a": 1, "b": ("=", "a", 0), "c": ("and", ("=", "a", 0), ("=", "b", 0))}
        low["d"] = ("and", low["c"], ("=", "c", 0))
        rules = []
        for place, (name, guard) in enumerate(low.items()):
            rules += [(place, guard, name, value, (value + 1) % 10, (place + 1) % 4, False) for value in range(10)]
            rules.append((place, ("not", guard), None, 0, 0, (place + 1) % 4, False))
        book = Book((), cells, 4, tuple(rules))
        self.assertEqual(course(book, ()), ("cycle", 0, 40000))
        self.assertEqual(advance(book, (), book.start, 20000), (0, (0, 0, 0, 5)))
        self.assertEqual(advance(~book, (), (0, (0, 0, 0, 5)), 20000), book.start)


class AdvanceTest(unittest.TestCase):
    def test_advance(self):
        states = [advance(COUNT, (), COUNT.start, steps) for steps in range(7)]
        self.assertEqual(states, [(0, (0,)), (1, (1,)), (0, (1,)), (1, (2,)), (2, (2,)), None, None])
        self.assertIsNone(advance(COUNT, (), COUNT.start, 20000))
        self.assertEqual(advance(COUNT, (), (2, (0,)), 0), (2, (0,)))
        self.assertIsNone(advance(COUNT, (), (2, (0,)), 1))
        self.assertEqual(advance(book=COUNT, given=(), state=(1, (1,)), steps=2), (1, (2,)))
        self.assertTrue(is_plain(tuple(states)))

    def test_rounds(self):
        for steps in (0, 1, 2, 3, 4, 5, 19997, 19999, 20000):
            self.assertEqual(advance(ROUND, (), ROUND.start, steps), (0, ((1 + steps) % 4, 1)))

    def test_documented(self):
        self.assertEqual(advance(~COUNT, (), (2, (2,)), 4), (0, (0,)))
        self.assertIsNone(advance(COUNT, (), COUNT.start, 5))


class ShownTest(unittest.TestCase):
    def test_documented(self):
        self.assertEqual(list(shown(COUNT, ())), [(1, (1,)), (1, (2,))])
        book = Book((), (("x", 2, 0),), 2, ((0, 1, None, 0, 0, 1, True), (1, 1, None, 0, 0, 1, True)))
        self.assertEqual(list(shown(book, ())), [(1, (0,)), (1, (0,))])

    def test_for_ever(self):
        round_once = [(0, (value, 1)) for value in (2, 3, 0, 1)]
        self.assertEqual(list(shown(ROUND, ())), round_once)
        self.assertEqual(list(shown(ROUND, (), (0, (3, 0)))), [(0, (value, 0)) for value in (0, 1, 2, 3)])
        self.assertEqual(list(shown(book=ROUND, given=(), state=(1, (3, 0)))), [])

    def test_other_states(self):
        self.assertEqual(list(shown(COUNT, (), (1, (1,)))), [(1, (2,))])
        self.assertEqual(list(shown(COUNT, (), (1, (2,)))), [])
        self.assertEqual(list(shown(COUNT, (), (0, (2,)))), [])
        self.assertTrue(is_plain(tuple(shown(COUNT, (), (0, (0,))))))

    def test_one_after_the_other(self):
        one = shown(ROUND, ())
        self.assertTrue(inspect.isgenerator(one))
        self.assertEqual(next(one), (0, (2, 1)))
        two = shown(ROUND, (), (0, (0, 0)))
        self.assertEqual([next(two), next(one), next(two)], [(0, (1, 0)), (0, (3, 1)), (0, (2, 0))])
        self.assertEqual(course(ROUND, ()), ("cycle", 0, 4))
        self.assertEqual([list(one), list(two)], [[(0, (0, 1)), (0, (1, 1))], [(0, (3, 0)), (0, (0, 0))]])

    def test_the_first_ones_of_very_many(self):
        # A run with 40 ** 6 states: nobody can wait for its end.
        names = ("a", "b", "c", "d", "e", "f")
        rules = []
        for place, name in enumerate(names):
            rules += [(place, 1, name, value, value + 1, 0, True) for value in range(39)]
            rules.append((place, 1, name, 39, 0, place + 1, False))
        shows = shown(Book((), tuple((name, 40, 0) for name in names), 7, tuple(rules)), ())
        self.assertEqual([next(shows)[1][:2] for _ in range(100)], [(k % 40, k // 40) for k in range(1, 101)])

    def test_it_looks_later(self):
        shows = shown(None, ())
        with self.assertRaises(AttributeError):
            next(shows)

    def test_without_showing_it_still_ends(self):
        book = Book((), (("x", 2, 0),), 2, ((0, 1, None, 0, 0, 1, False), (1, 1, None, 0, 0, 0, False)))
        self.assertEqual(list(shown(book, ())), [])


class ChanceTest(unittest.TestCase):
    def check(self, book):
        kinds = set()
        for given in givens_of(book):
            for state in states_of(book):
                for rule in book.rules:
                    expected = slow_rule_result(book, given, state, rule)
                    self.assertEqual(rule_result(book, given, state, rule), expected)
                    self.assertIs(rule_applies(book, given, state, rule), expected is not None)
                    if expected is not None:
                        # The inverse rule leads back.
                        self.assertEqual(rule_result(~book, given, expected, (~book).rules[book.rules.index(rule)]), state)
                self.assertEqual(book_next(book, given, state), slow_next(book, given, state)[0])
                told = slow_course(book, given, state)
                self.assertEqual(course(book, given, state), told)
                self.assertEqual(list(shown(book, given, state)), slow_shown(book, given, state))
                if told[0] == "ends":
                    self.assertEqual(advance(book, given, state, told[1]), told[2])
                    self.assertIsNone(advance(book, given, state, told[1] + 1))
                else:
                    self.assertEqual(advance(book, given, state, told[1]), advance(book, given, state, told[1] + told[2]))
                kinds.add((told[0], told[1] > 0))
            told = course(book, given)
            self.assertEqual(told, slow_course(book, given, book.start))
            self.assertEqual(list(shown(book, given)), slow_shown(book, given, book.start))
            self.assertEqual(book.call_value(given), told[2][1][-1] if told[0] == "ends" else 0)
        return kinds

    def test_by_chance(self):
        chance = random.Random(48)
        kinds = set()
        for _ in range(60):
            kinds |= self.check(chance_book(chance))
        self.assertEqual(len(kinds), 4)

    def test_by_chance_with_helpers(self):
        chance = random.Random(55)
        for _ in range(25):
            one = chance_book(chance)
            self.check(chance_book(chance, (("one", one), ("two", chance_book(chance, (("x", one),))))))

    def test_codes_may_be_helpers_of_expressions_too(self):
        code = Code((), (("x", 3, 0),), 3, (("set", "x", 2, 1), ("stop", "x")))
        self.assertEqual(Book((), (("x", 4, 0),), 2, ((0, 1, "x", 0, ("call", "c", ()), 1, False),), (("c", code),)).call_value(()), 3)


if __name__ == "__main__":
    unittest.main()
