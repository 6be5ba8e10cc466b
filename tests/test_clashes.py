"""Clashes of books: points 53 and 54."""

import random
import unittest

from sameroom.books import Book
from sameroom.clashes import find_clash
from sameroom.codes import Code
from sameroom.lookback import origins_book
from sameroom.plain import all_states
from sameroom.walkers import walker
from tests.helping import (
    COUNT, FLIP, KINDS, STEP, chance_expression, givens_of, is_plain, rotations_of, slow_rule_result, small_codes, states_of, told,
)

X = (("x", 2, 0),)
DOC_RULES = (
    (0, 1, "x", 0, 1, 1, True), (1, ("!=", "x", 2), None, 0, 0, 0, False), (0, 1, "x", 1, 2, 1, True),
    (1, ("=", "x", 2), None, 0, 0, 2, False),
)


def plain(place, guard, after):
    return (place, guard, None, 0, 0, after, False)


def slow_size(book):
    size = len(book)
    for cell in book.given + book.cells:
        size = size * cell[1]
    return size


def slow_clash(book):
    """The clash, straight from the words of the document."""
    for given in givens_of(book):
        leads = [(state, at, slow_rule_result(book, given, state, rule)) for state in states_of(book) for at, rule in enumerate(book)]
        leads = [(state, at, after) for state, at, after in leads if after is not None]
        for side, of in (("ahead", lambda lead: lead[0]), ("behind", lambda lead: lead[2])):
            for state in states_of(book):
                rules = sorted(at for at in {lead[1] for lead in leads if of(lead) == state})
                if len(rules) > 1:
                    return (side, given, state, rules[0], rules[1])
    return None


def chance_book(chance):
    given = (("g", chance.randrange(1, 4)), ("h", 2))[:chance.randrange(3)]
    cells = (("x", chance.randrange(1, 4), 0), ("mark", 2, 1), ("y", 2, 0))[:chance.randrange(1, 4)]
    places = chance.randrange(1, 5)
    rules = []
    for _ in range(chance.randrange(7)):
        cell = chance.choice((None, *[name for name, _, _ in cells]))
        names = [name for name, *_ in given + cells if name != cell] or [0]
        guard, old, new = [chance_expression(chance, names, (), 2) for _ in range(3)]
        ends = (chance.randrange(places), chance.randrange(places))
        change = (None, 0, 0) if cell is None else (cell, old, new)
        rules.append((ends[0], chance.choice((guard, 1, ("=", guard, 0))), *change, ends[1], chance.random() < 0.5))
    return Book(given, cells, places, tuple(rules), (), 0, places - 1)


class ClashTest(unittest.TestCase):
    def test_documented(self):
        book = Book((), X, 2, ((0, 1, "x", 0, 1, 1, False), (0, 1, "x", 1, 1, 1, False)))
        self.assertEqual(find_clash(book), ("behind", (), (1, (1,)), 0, 1))
        self.assertIsNone(find_clash(Book((), (("x", 3, 0),), 3, DOC_RULES, (), 0, 2)))
        self.assertEqual(find_clash(book=book), find_clash(book))
        self.assertTrue(is_plain(find_clash(book)))

    def test_without_rules(self):
        self.assertIsNone(find_clash(Book((), X, 2, ())))
        cells = tuple((name, 40, 0) for name in "abcdef")
        self.assertIsNone(find_clash(Book((("g", 8), ("h", 4)), cells, 500, ())))

    def test_one_rule_never_clashes(self):
        # What it changes does not occur in it, so it does not lead from two states to one.
        for rule in ((0, 1, "x", "g", ("-", 1, "g"), 0, True), plain(0, 1, 0), (0, "y", "x", "y", 0, 1, False), (1, 1, "y", "x", "x", 1, False)):
            book = Book((("g", 2),), (*X, ("y", 2, 0)), 2, (rule,))
            self.assertIsNone(find_clash(book))
            self.assertIsNone(slow_clash(book))

    def test_two_equal_rules(self):
        book = Book((), X, 2, (plain(1, 1, 0), plain(0, ("=", "x", 1), 1), plain(0, ("=", "x", 1), 1)))
        self.assertEqual(find_clash(book), ("ahead", (), (0, (1,)), 1, 2))
        # Rules that never apply do not clash.
        self.assertIsNone(find_clash(Book((), X, 2, (plain(0, 0, 1),) * 3)))
        self.assertIsNone(find_clash(Book((), X, 2, ((0, 1, "x", 0, 2, 1, False),) * 3)))
        self.assertIsNone(find_clash(Book((), X, 2, ((0, 1, "x", 2, 0, 1, False),) * 3)))

    def test_ahead_comes_before_behind(self):
        # Two rules lead to (0, (0,)), and two others apply at (2, (1,)).
        rules = (plain(1, ("=", "x", 0), 0), plain(2, ("=", "x", 0), 0), plain(2, ("=", "x", 1), 3), plain(2, ("=", "x", 1), 4))
        self.assertEqual(find_clash(Book((), X, 5, rules)), ("ahead", (), (2, (1,)), 2, 3))
        self.assertEqual(find_clash(Book((), X, 5, rules[:3])), ("behind", (), (0, (0,)), 0, 1))

    def test_the_least_given_comes_first(self):
        # Behind at the given (0, 1), ahead at the given (1, 0).
        at = ("=", ("+", ("*", 2, "g"), "h"), 1)
        rules = (plain(1, at, 0), plain(2, at, 0), plain(3, ("=", "g", 1), 3), plain(3, ("=", "g", 1), 4))
        given = (("g", 2), ("h", 2))
        self.assertEqual(find_clash(Book(given, X, 5, rules)), ("behind", (0, 1), (0, (0,)), 0, 1))
        self.assertEqual(find_clash(Book(given, X, 5, rules[2:])), ("ahead", (1, 0), (3, (0,)), 0, 1))
        self.assertEqual(find_clash(Book(given, X, 5, rules[:2])), ("behind", (0, 1), (0, (0,)), 0, 1))

    def test_the_least_state_and_the_first_two_rules(self):
        rules = (plain(2, 1, 0), plain(1, ("=", "x", 1), 2), plain(2, 1, 1), plain(1, 1, 2), plain(1, ("=", "x", 1), 0), plain(2, 1, 2))
        self.assertEqual(find_clash(Book((), X, 3, rules)), ("ahead", (), (1, (1,)), 1, 3))
        self.assertEqual(find_clash(Book((), X, 3, rules[::-1])), ("ahead", (), (1, (1,)), 1, 2))
        rules = (plain(0, ("=", "x", 1), 2), plain(1, 1, 2), plain(3, ("=", "x", 1), 2), plain(4, ("=", "x", 0), 2))
        self.assertEqual(find_clash(Book((), X, 5, rules)), ("behind", (), (2, (0,)), 1, 3))
        self.assertEqual(find_clash(Book((), X, 5, rules[:3])), ("behind", (), (2, (1,)), 0, 1))

    def test_places_before_values(self):
        rules = (plain(1, ("=", "x", 0), 0), plain(1, ("=", "x", 0), 0), plain(0, ("=", "x", 1), 0), plain(0, ("=", "x", 1), 1))
        self.assertEqual(find_clash(Book((), X, 2, rules)), ("ahead", (), (0, (1,)), 2, 3))

    def test_states_that_no_run_meets_count(self):
        book = Book((), X, 9, (plain(7, 1, 8), plain(6, 1, 8)))
        self.assertEqual(find_clash(book), ("behind", (), (8, (0,)), 0, 1))

    def test_helpers(self):
        count = Book((), (("x", 3, 0),), 3, DOC_RULES, (), 0, 2)
        guard = ("=", ("call", "count", ()), 2)
        self.assertEqual(find_clash(Book((), X, 2, (plain(0, guard, 1), plain(1, guard, 1)), (("count", count),))), ("behind", (), (1, (0,)), 0, 1))
        guard = ("=", ("call", "count", ()), 1)
        self.assertIsNone(find_clash(Book((), X, 2, (plain(0, guard, 1), plain(1, guard, 1)), (("count", count),))))

    def test_by_chance(self):
        chance = random.Random(53)
        sides = []
        for _ in range(1500):
            book = chance_book(chance)
            clash = slow_clash(book)
            self.assertEqual(find_clash(book), clash)
            sides.append(None if clash is None else clash[0])
            # The inverse has its clashes on the other side.
            self.assertEqual(find_clash(~book) is None, clash is None)
        self.assertGreater(min(sides.count(side) for side in (None, "ahead", "behind")), 100)

    def test_walkers_and_origins_books(self):
        chance = random.Random(54)
        for code in (STEP, COUNT, FLIP, KINDS, *small_codes(54, 30, 24)):
            for rotation in rotations_of(chance, code):
                for homeward in ("tour", "return"):
                    self.reversible(walker(code, rotation=rotation, homeward=homeward))
            for target in chance.choices(list(all_states(code)), k=4):
                self.reversible(origins_book(code, target))

    def reversible(self, book):
        if slow_size(book) <= 40000:
            self.assertIsNone(find_clash(book))
            self.assertIsNone(find_clash(~book))
        else:
            self.assertEqual(told(find_clash, book), ("TooLarge", {"size": slow_size(book)}))

    def test_equal_questions(self):
        book = Book((), X, 2, (plain(0, 1, 1), plain(1, 1, 1)))
        first = find_clash(book)
        find_clash(~book)
        self.assertEqual(find_clash(book), first)
        self.assertEqual((book.rules, book.cells), ((plain(0, 1, 1), plain(1, 1, 1)), X))


class SizeTest(unittest.TestCase):
    def test_bound(self):
        cells = (("x", 20, 0), ("y", 20, 0))
        given = (("g", 5), ("h", 4))
        rules = tuple(plain(place, 0, place) for place in range(5))
        self.assertIsNone(find_clash(Book(given, cells, 5, rules)))
        book = Book(given, cells, 6, rules + (plain(5, 0, 5),))
        self.assertEqual(told(find_clash, book), ("TooLarge", {"size": 48000}))

    def test_just_beyond(self):
        # 40001 is 13 * 17 * 181.
        book = Book((), (("x", 13, 0), ("y", 17, 0)), 2, (plain(0, 0, 0),) * 181)
        self.assertEqual(told(find_clash, book), ("TooLarge", {"size": 40001}))
        book = Book((), (("x", 1, 0),), 1, (plain(0, 0, 0),) * 2000, (), 0, 0)
        self.assertIsNone(find_clash(book))
        book = Book((("g", 4),), (("x", 5, 0),), 1, (plain(0, 0, 0),) * 2000, (), 0, 0)
        self.assertIsNone(find_clash(book))
        book = Book((("g", 7), ("h", 3)), (("x", 1, 0),), 1, (plain(0, 0, 0),) * 2000, (), 0, 0)
        self.assertEqual(told(find_clash, book), ("TooLarge", {"size": 42000}))

    def test_it_comes_before_clashes(self):
        cells = tuple((name, 40, 0) for name in "abcdef")
        book = Book((("g", 8), ("h", 4)), cells, 500, (plain(0, 1, 0),) * 2)
        self.assertEqual(told(find_clash, book), ("TooLarge", {"size": 40 ** 6 * 64}))

    def test_places_do_not_count(self):
        self.assertIsNone(find_clash(Book((), (("x", 40, 0), ("y", 40, 0)), 500, (plain(499, 1, 499),) * 1)))

    def test_code_without_room(self):
        code = Code((("g", 8), ("h", 4)), (("x", 8, 0), ("y", 8, 0)), 9, (("stop", "x"),))
        book = walker(code)
        self.assertEqual(told(find_clash, book), ("TooLarge", {"size": 32 * 64 * 11 * len(book)}))


if __name__ == "__main__":
    unittest.main()
