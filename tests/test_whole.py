"""The whole program at once: all ways to an answer agree, and no question disturbs another."""

import itertools
import random
import unittest

from sameroom.basins import components, states_with_outcome
from sameroom.books import Book
from sameroom.booktexts import read_book, write_book
from sameroom.clashes import find_clash
from sameroom.codes import Code, started
from sameroom.compiling import code_of, line_sources
from sameroom.debugging import Debugger
from sameroom.expressions import value_of
from sameroom.fingers import predecessors
from sameroom.graphs import Graph, graph_component, graph_cycles, graph_ends, graph_predecessors, graph_tours
from sameroom.librarytexts import read_library, write_library
from sameroom.lookback import comes_back, first_origins, givens_to, leads_to, origins, origins_book
from sameroom.plain import all_states, cycle_from, describe_outcome, end_number, outcome, path_to, run_states, start_state
from sameroom.programs import Library, Program
from sameroom.rotations import Rotation, lean_rotation
from sameroom.running import advance, course, shown
from sameroom.tours import graph_of, numbered_state, onward, state_number, tour_from
from sameroom.walkers import walker
from sameroom.walks import walk_outcome, walk_steps
from tests.helping import (
    BARE, COUNT, FLIP, KINDS, LARGEST, STEP, chance_code, chance_library, givens_of, is_plain, rotations_of, small_codes,
)

CODE_FIELDS = ("given", "cells", "answers", "lines", "helpers", "entry")
BOOK_FIELDS = ("given", "cells", "places", "rules", "helpers", "first", "last")


class AgreementTest(unittest.TestCase):
    """Every way to tell how a run ends says the same."""

    def check_start(self, chance, code, given):
        number = outcome(code, given)
        self.assertEqual(number, outcome(code, given, start_state(code)))
        self.assertEqual(number, code.call_value(given))
        for rotation in rotations_of(chance, code):
            for homeward in ("tour", "return"):
                self.assertEqual(walk_outcome(code, given, rotation=rotation, homeward=homeward), number)
                book = walker(code, rotation=rotation, homeward=homeward)
                self.assertEqual(book.call_value(given), number)
                self.assertEqual(course(book, given), ("ends", walk_steps(code, given, rotation=rotation, homeward=homeward), (1, start_state(code)[1] + (number,))))
                call = ("call", "f", given)
                self.assertEqual(value_of(call, {}, (("f", book),)), number)
                self.assertEqual(value_of(call, {}, (("f", code),)), number)
                asking = Book((), (("x", 40, 0),), 2, ((0, 1, "x", 0, call, 1, False),), (("f", book),))
                self.assertEqual(asking.call_value(()), number)
            self.assertEqual(Debugger(code, given, rotation=rotation).outcome(), number)
        other = Code((), (), 9, (("stop", ("call", "f", given)),), (("f", code),))
        self.assertEqual(walk_outcome(other, ()), outcome(other, ()))
        return number

    def check_states(self, code, given):
        told = {state: head for head, _, _ in components(code, given) for state in (head, *origins(code, given, head))}
        numbers = {head: number for head, number, _ in components(code, given)}
        self.assertEqual(sorted(told), list(all_states(code)))
        graph = graph_of(code, given)
        for state in all_states(code):
            number = outcome(code, given, state)
            self.assertEqual(numbers[told[state]], number)
            begun = started(code, state)
            self.assertEqual(walk_outcome(begun, given), number)
            self.assertEqual(begun.call_value(given), number)
            debugger = Debugger(code, given)
            debugger.go_to(state)
            self.assertEqual(debugger.outcome(), number)
            run = run_states(code, given, state)
            self.assertEqual(number == 0, cycle_from(code, given, state) != ())
            self.assertEqual(comes_back(code, given, state), state in cycle_from(code, given, state))
            self.assertEqual(tuple(numbered_state(code, node) for node in graph_predecessors(graph, state_number(code, state))),
                             predecessors(code, given, state))
            self.assertEqual([numbered_state(code, node) for node in graph_component(graph, state_number(code, state))],
                             [other for other in all_states(code) if told[other] == told[state]])
            for other in (run[0], run[-1], start_state(code)):
                self.assertEqual(leads_to(code, given, state, other), other in run)
                self.assertEqual(state in list(origins(code, given, other)), other in run and other != state)
            self.assertEqual(given in givens_to(code, state), path_to(code, given, state) != ())
        for number in set(numbers.values()):
            self.assertEqual(set(states_with_outcome(code, given, number)), {state for state, head in told.items() if numbers[head] == number})

    def check(self, chance, code):
        numbers = set()
        for given in givens_of(code):
            numbers.add(self.check_start(chance, code, given))
            if code.state_count <= 36:
                self.check_states(code, given)
        return {describe_outcome(code, number)[0] for number in numbers}

    def test_codes(self):
        chance = random.Random(1)
        words = set()
        for code in (STEP, COUNT, FLIP, KINDS, BARE, *small_codes(1, 30, 60)):
            words |= self.check(chance, code)
        self.assertEqual(words, {"never", "answer", "fault"})

    def test_codes_with_helpers(self):
        chance = random.Random(2)
        for _ in range(12):
            one = chance_code(chance, (("flip", FLIP),))
            two = chance_code(chance, (("one", one), ("kinds", KINDS)))
            self.check(chance, chance_code(chance, (("one", one), ("two", two))))

    def test_libraries(self):
        chance = random.Random(3)
        for _ in range(6):
            library = chance_library(chance, 3)
            again = read_library(write_library(library))
            self.assertTrue(again == library)
            for program in library:
                code = code_of(library, program.name)
                self.assertTrue(code == code_of(again, program.name))
                self.assertEqual(len(line_sources(library, program.name)), len(code.lines))
                self.check(chance, code)

    def test_books_that_were_written_and_read(self):
        chance = random.Random(4)
        for code in (KINDS, *small_codes(4, 10, 30)):
            asking = Code((), (("x", 2, 0),), 9, (("stop", ("call", "f", (0,) * len(code.given))),), (("f", code),))
            for one in (code, asking):
                book = read_book(write_book(walker(one, rotation=chance.choice(rotations_of(chance, one)))))
                for given in givens_of(one):
                    self.assertEqual(book.call_value(given), outcome(one, given))
                target = chance.choice(list(all_states(one)))
                book = read_book(write_book(origins_book(one, target)))
                for given in givens_of(one):
                    self.assertEqual(list(shown(book, given)), list(shown(origins_book(one, target), given)))
                    self.assertEqual(book.call_value(given), int(comes_back(one, given, target)))

    def test_tours_of_codes_and_graphs(self):
        for code in (STEP, COUNT, FLIP, KINDS, *small_codes(5, 20, 60)):
            for given in givens_of(code):
                graph = graph_of(code, given)
                heads = [head for head, _, _ in components(code, given)]
                self.assertEqual(heads, sorted(numbered_state(code, node) for node in (*graph_ends(graph), *[cycle[0] for cycle in graph_cycles(graph)])))
                self.assertEqual(len(graph_tours(graph)), sum(1 if number else 2 for _, number, _ in components(code, given)))

    def test_programs_that_ask_whether_others_end(self):
        library = read_library(
            "program dial\ngiven knob 4\ncell pin 4 1\nanswers 1\nbegin\nwhile pin != knob\nset pin to (pin + 2) mod 4\nend\nstop 0\nend\n"
            "program all\ngiven k 3\ncell n 5 0\ncell sum 5 0\nanswers 5\nbegin\nwhile n < 4\nset sum to sum + (dial(n) = 0)\n"
            "set n to n + 1\nend\nstop sum\nend\n"
            "program high\ncell n 4 3\nanswers 4\nbegin\nwhile dial(n) = all(2) or dial(n) = 0\nset n to n - 1\nend\nstop n + all(n + 3)\nend"
        )
        self.assertEqual([outcome(code_of(library, name), given) for name, given in (("dial", (0,)), ("all", (1,)), ("high", ()))], [0, 3, 3])
        chance = random.Random(6)
        for name in ("dial", "all", "high"):
            self.check(chance, code_of(library, name))

    def test_room(self):
        made = FLIP
        for many in range(2, 13):
            made = Code((), (("x", 2, 0),), 2, (("set", "x", ("!=", ("call", "h", ()), 0), 1), ("stop", "x")), (("h", made),))
            self.assertEqual(walker(made).room, 2 * many)
            self.assertEqual(walk_outcome(made, ()), outcome(made, ()))
            self.assertEqual(walk_outcome(made, (), homeward="return"), outcome(made, ()))


class StayTest(unittest.TestCase):
    """Equal questions have equal answers, whatever else is asked between them."""

    def questions(self, code, given, book):
        target = list(all_states(code))[-1]
        debugger = Debugger(code, given)
        debugger.forward(3)
        return (
            outcome(code, given), code.call_value(given), walk_outcome(code, given), walk_steps(code, given, homeward="return"),
            course(book, given), list(shown(origins_book(code, target), given)), advance(book, given, book.start, 3),
            list(origins(code, given, target)), list(first_origins(code, given, target)), comes_back(code, given, target),
            givens_to(code, target), components(code, given), [list(states_with_outcome(code, given, number)) for number in range(3)],
            list(tour_from(code, given, start_state(code), 1)), graph_tours(graph_of(code, given)), debugger.snapshot(), debugger.age(),
            debugger.outcome(), lean_rotation(code).rows, write_book(book), predecessors(code, given, target),
        )

    def test_behind_other_questions(self):
        chance = random.Random(7)
        helper = chance_code(chance)
        for code in (COUNT, KINDS, FLIP, chance_code(chance, (("h", helper),)), chance_code(chance, (("h", helper), ("flip", FLIP)))):
            book = walker(code)
            code_fields = [getattr(code, field) for field in CODE_FIELDS]
            book_fields = [getattr(book, field) for field in BOOK_FIELDS]
            first = [self.questions(code, given, book) for given in givens_of(code)]
            fresh = Code(*code_fields)
            self.assertEqual([self.questions(fresh, given, walker(fresh)) for given in givens_of(fresh)][::-1], first[::-1])
            self.assertEqual([self.questions(code, given, book) for given in reversed(givens_of(code))][::-1], first)
            self.assertEqual([getattr(code, field) for field in CODE_FIELDS], code_fields)
            self.assertEqual([getattr(book, field) for field in BOOK_FIELDS], book_fields)
            self.assertTrue(fresh == code and walker(fresh) == book)
            self.assertTrue(all(is_plain(rule[:6]) for rule in book.rules))

    def test_while_generators_are_in_use(self):
        given, target = (2,), (2, (0,))
        book = walker(KINDS)

        def generators():
            return (
                all_states(KINDS), tour_from(KINDS, given, (1, (1,)), 1), shown(origins_book(KINDS, target), given), origins(KINDS, given, target),
                first_origins(KINDS, given, target), states_with_outcome(KINDS, given, 1), states_with_outcome(KINDS, given, 0),
            )
        alone = [list(generator) for generator in generators()]
        told = self.questions(KINDS, given, book)
        mixed = [[] for _ in alone]
        for items in itertools.zip_longest(*generators()):
            self.assertEqual(self.questions(KINDS, given, book), told)
            for row, item in zip(mixed, items):
                if item is not None:
                    row.append(item)
        self.assertEqual(mixed, alone)


class ComparisonTest(unittest.TestCase):
    def test_other_kinds(self):
        program = Program("p", (), (), 1, (), ())
        values = (
            program, Library((program,)), STEP, Rotation(STEP), walker(STEP), 0, "p", None, (), ((0, 1), (0, 1, 2)),
            ((), (("x", 2, 0),), 2, STEP.lines, (), 0), walker(STEP).rules, (program,),
        )
        for one, two in itertools.product(values, repeat=2):
            self.assertIs(one == two, one is two)
            self.assertIs(one != two, one is not two)

    def test_equal(self):
        pairs = (
            (Program("p", (), (), 1, (), ()), Program("p", (), (), 1, (), ())),
            (Library((Program("p", (), (), 1, (), ()),)), Library((Program("p", (), (), 1, (), ()),))),
            (STEP, Code(*[getattr(STEP, field) for field in CODE_FIELDS])), (Rotation(STEP), Rotation(STEP, ((0, 1), (0, 1, 2)))),
            (walker(STEP), Book(*[getattr(walker(STEP), field) for field in BOOK_FIELDS])),
        )
        for one, two in pairs:
            self.assertIs(one == two, True)
            self.assertIs(one != two, False)


class QuickTest(unittest.TestCase):
    def test_largest(self):
        given = (5, 2)
        number = outcome(LARGEST, given)
        end = run_states(LARGEST, given, start_state(LARGEST))[-1]
        self.assertEqual(end_number(LARGEST, given, end), number)
        self.assertEqual(walk_outcome(LARGEST, given, rotation=lean_rotation(LARGEST)), number)
        self.assertEqual([count for head, _, count in components(LARGEST, given) if head == end], [1 + len(list(origins(LARGEST, given, end)))])
        self.assertEqual(onward(LARGEST, given, end, 0), (end, 1))
        self.assertEqual(find_clash(Book((), (("x", 40, 0), ("y", 40, 0)), 1, ((0, 0, None, 0, 0, 0, False),) * 25, (), 0, 0)), None)
        self.assertEqual(len(graph_tours(Graph((None,) * 1600))), 1600)

    def test_helpers_that_ask_helpers(self):
        # Each helper is asked at each of its givens, at each level; what it told is kept.
        cells = (("x", 8, 0), ("y", 8, 0))
        lines = [("set", "x", ("mod", ("+", "x", 1), 8), line + 1) for line in range(22)]
        made = Code((("k", 8), ("j", 4)), cells, 9, (*lines, ("pick", ("=", "x", "k"), (0, 23)), ("stop", "j")))
        for _ in range(3):
            call = ("call", "a", ("x", ("mod", "y", 4)))
            rows = [("set", "x", ("mod", ("+", "x", ("!=", call, 99)), 8), line + 1) for line in range(22)]
            made = Code((("k", 8), ("j", 4)), cells, 9, (*rows, ("pick", ("=", "x", "k"), (0, 23)), ("stop", call)), (("a", made),))
        for given in ((0, 0), (6, 3)):
            self.assertEqual(walk_outcome(made, given), outcome(made, given))
            debugger = Debugger(made, given)
            self.assertEqual(debugger.outcome(), outcome(made, given))
            target = run_states(made, given, start_state(made))[20]
            self.assertIs(leads_to(made, given, start_state(made), target), True)


if __name__ == "__main__":
    unittest.main()
