"""Compiling: points 27 to 29."""

import random
import unittest

from sameroom.codes import Code
from sameroom.compiling import code_of, line_sources
from sameroom.librarytexts import read_library
from sameroom.plain import describe_outcome, next_state, outcome, start_state
from sameroom.programs import Library, Program
from tests.helping import chance_library, givens_of, is_plain, slow_value, told

CELLS = (("x", 3, 0), ("y", 2, 1))
# In this order they call one another: each one all earlier ones.
CHAIN = read_library("""program one
given k 4
cell x 4 1
answers 3
begin
  while x != k
    set x to (x + 2) mod 4
  end
end

program two
given k 2
answers 2
begin
  stop one(k + 1) = 0
end

program three
answers 9
begin
  stop two(one(1)) + two(1) * 2
end

program four
cell x 2 0
answers 2
procedure never
  set x to three()
end
begin
  stop two(0) + one(2)
end

program five
answers 9
begin
  if four() = three()
    stop 7
  end
end""")


def library_of(body, procedures=(), answers=4):
    return Library((Program("p", (("g", 8),), CELLS, answers, procedures, body),))


def lines_of(*body, procedures=()):
    return code_of(library_of(body, procedures), "p").lines


def sources_of(*body, procedures=()):
    return line_sources(library_of(body, procedures), "p")


def put(value, cell="x"):
    return ("set", cell, value)


# What the lines of a program are, told in another way: first the tree with the numbers of all lines, then their targets.

def numbered(body, procedures, rows, trail, procedure, path):
    tree = []
    for at, statement in enumerate(body):
        source = trail + ((procedure, path + (at,)),)
        node = {"statement": statement, "line": None, "bodies": []}
        first = len(rows)
        if statement[0] == "do":
            node["bodies"].append(numbered(procedures[statement[1]], procedures, rows, source, statement[1], ()))
        else:
            node["line"] = len(rows)
            rows.append([None, source])
            bodies = {"if": statement[2:], "while": statement[2:], "pick": statement[2:] and statement[2]}.get(statement[0], ())
            for k, inner in enumerate(bodies):
                node["bodies"].append(numbered(inner, procedures, rows, trail, procedure, path + (at, k)))
        node["all"] = list(range(first, len(rows)))
        tree.append(node)
    return tree


def first_line(tree, lead):
    return min([line for node in tree for line in node["all"]], default=lead)


def aim(tree, rows, lead):
    for at, node in enumerate(tree):
        onward = first_line(tree[at + 1:], lead)
        statement, line, bodies = node["statement"], node["line"], node["bodies"]
        inner_lead = line if statement[0] == "while" else onward
        targets = [first_line(body, inner_lead) for body in bodies]
        if line is not None:
            rows[line][0] = {
                "set": lambda: (*statement, onward),
                "if": lambda: ("pick", ("!=", statement[1], 0), (targets[1], targets[0])),
                "while": lambda: ("pick", ("!=", statement[1], 0), (onward, targets[0])),
                "pick": lambda: ("pick", statement[1], tuple(targets)),
                "stop": lambda: statement, "fail": lambda: statement,
            }[statement[0]]()
        for body in bodies:
            aim(body, rows, inner_lead)


def slow_rows(program):
    rows = []
    tree = numbered(program.body, dict(program.procedures), rows, (), None, ())
    aim(tree, rows, len(rows))
    rows.append([("stop", 0), ((None, (len(program.body),)),)])
    return tuple(line for line, _ in rows), tuple(source for _, source in rows)


# What a program does, straight from point 15.

class Ended(Exception):
    pass


class Run:
    """A run of a program: `events` gets (source, values) of each statement that is carried out, `ending` how it ends."""

    def __init__(self, program, given, helpers, limit):
        self.program, self.helpers, self.limit = program, helpers, limit
        self.values = {name: value for (name, _), value in zip(program.given, given)}
        self.values.update({name: start for name, _, start in program.cells})
        self.sizes = {name: size for name, size, _ in program.cells}
        self.procedures = dict(program.procedures)
        self.events, self.ending = [], ("never",)
        try:
            self.body(program.body, (), None, ())
            self.event(((None, (len(program.body),)),))
            self.ending = ("answer", 0)
        except Ended:
            pass

    def event(self, source):
        if len(self.events) == self.limit:
            raise Ended
        self.events.append((source, tuple(self.values[name] for name in self.sizes)))

    def end(self, ending):
        self.ending = ending
        raise Ended

    def body(self, body, trail, procedure, path):
        for at, statement in enumerate(body):
            way = trail + ((procedure, path + (at,)),)
            if statement[0] == "do":
                self.body(self.procedures[statement[1]], way, statement[1], ())
            else:
                self.statement(statement, way, trail, procedure, path + (at,))

    def statement(self, statement, way, trail, procedure, path):
        self.event(way)
        kind, fault = statement[0], ("fault", way)
        if kind == "fail":
            self.end(fault)
        value = slow_value(statement[2 if kind == "set" else 1], self.values, self.helpers)
        if kind == "set":
            if value not in range(self.sizes[statement[1]]):
                self.end(fault)
            self.values[statement[1]] = value
        elif kind == "stop":
            self.end(("answer", value) if value in range(self.program.answers) else fault)
        elif kind == "if":
            self.body(statement[3 if value == 0 else 2], trail, procedure, path + (0 if value else 1,))
        elif kind == "pick":
            if value not in range(len(statement[2])):
                self.end(fault)
            self.body(statement[2][value], trail, procedure, path + (value,))
        else:
            while value:
                self.body(statement[2], trail, procedure, path + (0,))
                self.event(way)
                value = slow_value(statement[1], self.values, self.helpers)


def code_run(code, sources, given, limit):
    """The same of the code: its events, and its ending with the source of the line in the place of the line."""
    events, state = [], start_state(code)
    while state is not None and len(events) < limit:
        events.append((sources[state[0]], state[1]))
        state = next_state(code, given, state)
    ending = describe_outcome(code, outcome(code, given))
    return events, ("fault", sources[ending[1]]) if ending[0] == "fault" else ending


class LinesTest(unittest.TestCase):
    def test_nothing(self):
        self.assertEqual(lines_of(), (("stop", 0),))
        self.assertEqual(sources_of(), (((None, (0,)),),))

    def test_one_after_the_other(self):
        self.assertEqual(lines_of(put(1), put("g", "y"), ("fail",)), (put(1) + (1,), put("g", "y") + (2,), ("fail",), ("stop", 0)))
        self.assertEqual(lines_of(("stop", "x"), put(2), ("stop", 1)), (("stop", "x"), put(2) + (2,), ("stop", 1), ("stop", 0)))

    def test_if(self):
        asked = ("!=", "g", 0)
        self.assertEqual(lines_of(("if", "g", (put(1), put(2)), (put(0),)), put("x")), (
            ("pick", asked, (3, 1)), put(1) + (2,), put(2) + (4,), put(0) + (4,), put("x") + (5,), ("stop", 0),
        ))
        self.assertEqual(lines_of(("if", "g", (), (put(0),)), put("x")),
                         (("pick", asked, (1, 2)), put(0) + (2,), put("x") + (3,), ("stop", 0)))
        self.assertEqual(lines_of(("if", "g", (put(1),), ())), (("pick", asked, (2, 1)), put(1) + (2,), ("stop", 0)))
        self.assertEqual(lines_of(("if", "g", (), ())), (("pick", asked, (1, 1)), ("stop", 0)))
        self.assertEqual(lines_of(("if", ("!=", "g", 0), (("fail",),), (("fail",),))),
                         (("pick", ("!=", asked, 0), (2, 1)), ("fail",), ("fail",), ("stop", 0)))

    def test_while(self):
        asked = ("!=", "g", 0)
        self.assertEqual(lines_of(("while", "g", ())), (("pick", asked, (1, 0)), ("stop", 0)))
        self.assertEqual(lines_of(put(1), ("while", "g", (put(2), put(0))), put("x")), (
            put(1) + (1,), ("pick", asked, (4, 2)), put(2) + (3,), put(0) + (1,), put("x") + (5,), ("stop", 0),
        ))
        self.assertEqual(lines_of(("while", "g", (("while", "x", ()),))),
                         (("pick", asked, (2, 1)), ("pick", ("!=", "x", 0), (0, 1)), ("stop", 0)))
        self.assertEqual(lines_of(("while", "g", (("if", "x", (), (put(1),)),))),
                         (("pick", asked, (3, 1)), ("pick", ("!=", "x", 0), (2, 0)), put(1) + (0,), ("stop", 0)))

    def test_pick(self):
        self.assertEqual(lines_of(("pick", "g", ((), (put(1),), (), (put(2), put(0)), ())), put("x")), (
            ("pick", "g", (4, 1, 4, 2, 4)), put(1) + (4,), put(2) + (3,), put(0) + (4,), put("x") + (5,), ("stop", 0),
        ))
        self.assertEqual(lines_of(("pick", "g", ((),))), (("pick", "g", (1,)), ("stop", 0)))
        self.assertEqual(lines_of(("while", "x", (("pick", "g", ((), ())),))),
                         (("pick", ("!=", "x", 0), (2, 1)), ("pick", "g", (0, 0)), ("stop", 0)))

    def test_procedures(self):
        procedures = (("none", ()), ("two", (put(1), put(2))), ("more", (("do", "none"), ("do", "two"), ("do", "none"))))
        do = {name: ("do", name) for name in ("none", "two", "more")}

        def lines(*body):
            return lines_of(*body, procedures=procedures)
        self.assertEqual(lines(do["none"]), (("stop", 0),))
        self.assertEqual(lines(do["two"], do["two"]), (put(1) + (1,), put(2) + (2,), put(1) + (3,), put(2) + (4,), ("stop", 0)))
        self.assertEqual(lines(put(0), do["none"], do["more"], do["none"]),
                         (put(0) + (1,), put(1) + (2,), put(2) + (3,), ("stop", 0)))
        self.assertEqual(lines(("while", "g", (put(0), do["none"])), do["none"]),
                         (("pick", ("!=", "g", 0), (2, 1)), put(0) + (0,), ("stop", 0)))
        self.assertEqual(lines(("if", "g", (do["none"],), (do["two"],)), do["none"], ("fail",)),
                         (("pick", ("!=", "g", 0), (1, 3)), put(1) + (2,), put(2) + (3,), ("fail",), ("stop", 0)))
        self.assertEqual(lines(("pick", "g", ((do["none"],), (do["more"],), (do["none"],) * 3))),
                         (("pick", "g", (3, 1, 3)), put(1) + (2,), put(2) + (3,), ("stop", 0)))
        self.assertEqual(lines(("while", "x", (do["none"], do["none"]))), (("pick", ("!=", "x", 0), (1, 0)), ("stop", 0)))

    def test_sources(self):
        procedures = (("none", ()), ("deep", (("do", "none"), ("while", "x", (put(1), ("do", "flat"))))), ("flat", (("fail",),)))
        body = (("do", "none"), ("pick", "g", ((), (put(0), ("do", "deep")))), ("if", "g", (("do", "flat"),), (("stop", 1),)))
        self.assertEqual(sources_of(*body, procedures=procedures), (
            ((None, (1,)),),
            ((None, (1, 1, 0)),),
            ((None, (1, 1, 1)), ("deep", (1,))),
            ((None, (1, 1, 1)), ("deep", (1, 0, 0))),
            ((None, (1, 1, 1)), ("deep", (1, 0, 1)), ("flat", (0,))),
            ((None, (2,)),),
            ((None, (2, 0, 0)), ("flat", (0,))),
            ((None, (2, 1, 0)),),
            ((None, (3,)),),
        ))

    def test_most_lines(self):
        lines = lines_of(*(put(1),) * 23)
        self.assertEqual(lines, tuple(put(1) + (line + 1,) for line in range(23)) + (("stop", 0),))
        self.assertEqual(len(sources_of(*(put(1),) * 23)), 24)
        lines = lines_of(*(("do", "four"),) * 5, ("do", "three"), procedures=(("four", (put(1),) * 4), ("three", (put(2),) * 3)))
        self.assertEqual([line[2] for line in lines[:-1]], [1] * 20 + [2] * 3)

    def test_procedures_without_lines_that_do_one_another_very_often(self):
        procedures = (("a", (("do", "b"),) * 15), ("b", (("do", "c"),) * 15), ("c", (("do", "d"),) * 14), ("d", ()))
        self.assertEqual(lines_of(*(("do", "a"),) * 15, put(1), procedures=procedures), (put(1) + (1,), ("stop", 0)))
        self.assertEqual(sources_of(*(("do", "a"),) * 15, put(1), procedures=procedures), (((None, (15,)),), ((None, (16,)),)))

    def test_frame(self):
        code = code_of(library_of((put(1),), answers=7), "p")
        self.assertEqual(code, Code((("g", 8),), CELLS, 7, (put(1) + (1,), ("stop", 0)), (), 0))
        self.assertEqual((code.helpers, code.entry), ((), 0))

    def test_slow_way_by_chance(self):
        chance = random.Random(27)
        for _ in range(150):
            library = chance_library(chance, 2)
            for program in library:
                code, sources = code_of(library, program.name), line_sources(library, program.name)
                self.assertEqual((code.lines, sources), slow_rows(program))
                self.assertEqual((code.given, code.cells, code.answers), (program.given, program.cells, program.answers))
                self.assertTrue(is_plain(code.lines) and is_plain(sources))


class HelpersTest(unittest.TestCase):
    def test_chain(self):
        codes = {program.name: code_of(CHAIN, program.name) for program in CHAIN}
        helpers = {name: [pair[0] for pair in code.helpers] for name, code in codes.items()}
        self.assertEqual(helpers, {
            "one": [], "two": ["one"], "three": ["one", "two"], "four": ["one", "two"], "five": ["three", "four"],
        })
        for code in codes.values():
            for name, helper in code.helpers:
                self.assertTrue(helper == codes[name])
            self.assertIs(type(code.helpers), tuple)
            self.assertTrue(all(type(pair) is tuple and type(pair[1]) is Code for pair in code.helpers))

    def test_what_they_answer(self):
        # one ends for odd k, with 0; two(0) asks one(1), two(1) asks one(2): 1 and 2; and so on.
        self.assertEqual([code_of(CHAIN, "one").call_value((k,)) for k in range(5)], [0, 1, 0, 1, -1])
        self.assertEqual([code_of(CHAIN, "two").call_value((k,)) for k in range(3)], [1, 2, -1])
        self.assertEqual(code_of(CHAIN, "three").call_value(()), 1 + 2 + 2 * 2)
        self.assertEqual(code_of(CHAIN, "four").call_value(()), 1 + 1)
        self.assertEqual(code_of(CHAIN, "five").call_value(()), 1)

    def test_helpers_of_lines_only(self):
        texts = CHAIN.programs[:2]
        never = Program("never", (), (), 1, (("p", (("stop", ("call", "one", (0,))),)),), ())
        self.assertEqual(code_of(Library(texts + (never,)), "never").helpers, ())
        once = Program("once", (), (), 1, (("p", (("stop", ("call", "two", (0,))),)),), (("fail",), ("do", "p")))
        self.assertEqual([name for name, _ in code_of(Library(texts + (once,)), "once").helpers], ["two"])

    def test_order_of_the_library(self):
        one = Program("z", (), (), 1, (), ())
        two = Program("a", (("g", 2),), (), 1, (), ())
        body = (("stop", ("call", "a", (("call", "z", ()),))), ("if", ("call", "a", (0,)), (), ()))
        self.assertEqual([name for name, _ in code_of(Library((one, two, Program("m", (), (), 1, (), body))), "m").helpers], ["z", "a"])

    def test_a_later_program_is_not_needed(self):
        self.assertTrue(code_of(CHAIN, "two") == code_of(Library(CHAIN.programs[:2]), "two"))

    def test_equal_questions(self):
        first = code_of(CHAIN, "five")
        first.call_value(())
        code_of(CHAIN, "one")
        again = code_of(library=CHAIN, name="five")
        self.assertTrue(first == again)
        self.assertEqual(line_sources(CHAIN, "five"), line_sources(library=CHAIN, name="five"))


class UnknownTest(unittest.TestCase):
    def test_unknown(self):
        for name in ("", "On", "One", "ONE", "on", "onee", "one ", " one", "never", "x", "k", "stop", "six", "\n", "one\ntwo", "a" * 5000):
            for function in (code_of, line_sources):
                self.assertEqual(told(function, CHAIN, name), ("UnknownProgram", {"name": name}))
        self.assertEqual(told(code_of, library_of(()), "q"), ("UnknownProgram", {"name": "q"}))


class AgreementTest(unittest.TestCase):
    """Point 28: a program and its code do the same."""

    def check(self, library, program):
        code, sources = code_of(library, program.name), line_sources(library, program.name)
        helpers = {earlier.name: code_of(library, earlier.name) for earlier in library.programs[:library.programs.index(program)]}
        endings = set()
        for given in givens_of(program):
            # A run of the code that meets more states than there are goes on for ever.
            limit = code.state_count + 1
            run = Run(program, given, helpers, limit)
            self.assertEqual((run.events, run.ending), code_run(code, sources, given, limit))
            self.assertEqual(describe_outcome(code, code.call_value(given))[0], run.ending[0])
            endings.add(run.ending[0])
        return endings

    def test_by_chance(self):
        chance = random.Random(28)
        endings = []
        for _ in range(150):
            library = chance_library(chance, 3)
            for program in library:
                endings.extend(self.check(library, program))
        for ending in ("never", "answer", "fault"):
            self.assertGreater(endings.count(ending), 20)

    def test_chain(self):
        for program in CHAIN:
            self.check(CHAIN, program)

    def test_documented(self):
        library = read_library(DOCUMENTED)
        self.assertEqual(self.check(library, library.named("dial")), {"never", "answer"})
        self.assertEqual(self.check(library, library.named("safe")), {"answer"})
        safe = code_of(library, "safe")
        self.assertEqual([safe.call_value((number,)) for number in range(-1, 5)], [-1, 3, 3, 1, 3, -1])


DOCUMENTED = """program dial
given knob 4
cell pin 4 1
answers 1
begin
  while pin != knob
    set pin to (pin + 2) mod 4
  end
  stop 0
end

program safe
given code 4
cell left 4 3
answers 4
procedure turn
  if left = 0
    fail
  else
    set left to left - 1
  end
end
begin
  while dial(left) != 0 or left = code
    do turn
  end
  stop left
end"""


if __name__ == "__main__":
    unittest.main()
