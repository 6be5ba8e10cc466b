"""Library texts: points 19 to 22."""

import unittest

from sameroom.expressiontexts import read_expression
from sameroom.librarytexts import read_library, write_library
from sameroom.programs import Library, Program
from tests.helping import is_plain, told

EXAMPLE = """program dial
given knob 4
cell pin 4 1
answers 1
begin
  while pin != knob
    set pin to (pin + 2) mod 4
  end
  stop 0
end

program safe
given code 4
cell left 4 3
answers 4
procedure turn
  if left = 0
    fail
  else
    set left to left - 1
  end
end
begin
  while dial(left) != 0 or left = code
    do turn
  end
  stop left
end"""

DIAL = Program(
    "dial", (("knob", 4),), (("pin", 4, 1),), 1, (),
    (("while", ("!=", "pin", "knob"), (("set", "pin", ("mod", ("+", "pin", 2), 4)),)), ("stop", 0)),
)
SAFE = Program(
    "safe", (("code", 4),), (("left", 4, 3),), 4,
    (("turn", (("if", ("=", "left", 0), (("fail",),), (("set", "left", ("-", "left", 1)),)),)),),
    (
        ("while", ("or", ("!=", ("call", "dial", ("left",)), 0), ("=", "left", "code")), (("do", "turn"),)),
        ("stop", "left"),
    ),
)

# Every kind of line in every kind of place.
LARGE = """program big
given a 2
given b 3
cell x 4 1
cell y 2 0
answers 3
procedure one
end
procedure two
  set x to y
  do one
end
begin
  if a
  end
  if b
    fail
  else
    pick x
    case
    case
      stop 1
      while not y
        if a = b
        else
          set y to 1 - y
        end
      end
    case
      do two
    end
  end
  while 1
  end
end"""

FIELDS = ("name", "given", "cells", "answers", "procedures", "body")


def bad(line):
    return ("BadLine", {"line": line})


def in_body(*lines):
    return "\n".join(["program p", "cell x 4 0", "answers 9", "begin", *lines, "end"])


def body_of(*lines):
    return read_library(in_body(*lines)).programs[0].body


class ReadTest(unittest.TestCase):
    def test_example(self):
        library = read_library(EXAMPLE)
        self.assertEqual(library, Library((DIAL, SAFE)))
        self.assertEqual(read_library(text=EXAMPLE), library)

    def test_large(self):
        program = read_library(LARGE).named("big")
        self.assertEqual(program, Program(
            "big", (("a", 2), ("b", 3)), (("x", 4, 1), ("y", 2, 0)), 3,
            (("one", ()), ("two", (("set", "x", "y"), ("do", "one")))),
            (
                ("if", "a", (), ()),
                ("if", "b", (("fail",),), (("pick", "x", (
                    (),
                    (("stop", 1), ("while", ("not", "y"), (
                        ("if", ("=", "a", "b"), (), (("set", "y", ("-", 1, "y")),)),
                    ))),
                    (("do", "two"),),
                )),)),
                ("while", 1, ()),
            ),
        ))
        for field in FIELDS:
            self.assertTrue(is_plain(getattr(program, field)), field)
        self.assertIs(type(read_library(LARGE).programs), tuple)

    def test_remarks_spaces_and_empty_lines(self):
        text = (
            "\n; first\n   program    p   ; a name\n;\n given g 2;size\n   \n cell  x  2  0\n\nanswers 2 ; ; two\n\n"
            "begin;\n\n  ; nothing\nwhile x=0;loop ? 007\n   set   x   to   x+1  \nend\n pick x\n\n; no case yet\n  case\n"
            "case ; second\nend\nend ; done\n\n ; behind all"
        )
        expected = Program("p", (("g", 2),), (("x", 2, 0),), 2, (), (
            ("while", ("=", "x", 0), (("set", "x", ("+", "x", 1)),)), ("pick", "x", ((), ())),
        ))
        self.assertEqual(read_library(text), Library((expected,)))
        self.assertEqual(read_library(text + "\n\n"), Library((expected,)))

    def test_expressions_stand_in_lines_as_they_are(self):
        for text in ("x", "(x)", "- 3", "not x", "x  +   1", "x<2or x>1", "(x = 1) = 0"):
            expression = read_expression(text)
            self.assertEqual(body_of(f"set x to {text}", f"stop {text}"), (("set", "x", expression), ("stop", expression)))
            self.assertEqual(body_of(f"if {text}", "end", f"while   {text}", "end"),
                             (("if", expression, (), ()), ("while", expression, ())))
            self.assertEqual(body_of(f"pick {text}", "case", "end"), (("pick", expression, ((),)),))

    def test_else(self):
        self.assertEqual(body_of("if 1", "else", "end"), (("if", 1, (), ()),))
        self.assertEqual(body_of("if 1", "fail", "else", "end"), (("if", 1, (("fail",),), ()),))
        self.assertEqual(body_of("if 1", "if 2", "else", "fail", "end", "else", "stop 0", "end"),
                         (("if", 1, (("if", 2, (), (("fail",),)),), (("stop", 0),)),))

    def test_eight_blocks_and_long_lines(self):
        text = in_body(*["while 1"] * 6, "fail", *["end"] * 6)
        self.assertEqual(told(read_library, text), ("BadLibrary", {"program": 0, "rule": 5}))
        self.assertEqual(told(read_library, in_body(*["while 1"] * 7, "fail", *["end"] * 6)), bad(20))
        sums = "1" + "+1" * 199
        self.assertEqual(told(read_library, in_body("stop " + sums)), ("BadLibrary", {"program": 0, "rule": 6}))
        self.assertEqual(told(read_library, in_body("stop 1 ;" + "?" * 432)), read_library(in_body("stop 1")))
        self.assertEqual(body_of(" " * 434 + "stop 1"), (("stop", 1),))

    def test_only_the_form_counts_for_reading(self):
        for line, rule in (
            ("set x to 1000", None), ("set y to 1", 5), ("do other", 5), ("stop y", 6), ("stop mark", 6),
            ("set x to line + finger", 6), ("stop f()", 7), ("stop f(1, 2, 3)", 7), ("stop f(1, 2, 3, 4)", None),
        ):
            expected = bad(5) if rule is None else ("BadLibrary", {"program": 0, "rule": rule})
            self.assertEqual(told(read_library, in_body(line)), expected, line)
        for line, rule in (("cell x 0 0", 3), ("cell x 999 999", 3), ("given g 0", 3), ("given g 999", 3)):
            self.assertEqual(told(read_library, f"program p\n{line}\nanswers 1\nbegin\nend"),
                             ("BadLibrary", {"program": 0, "rule": rule}), line)
        for answers in (0, 10, 999):
            self.assertEqual(told(read_library, f"program p\nanswers {answers}\nbegin\nend"),
                             ("BadLibrary", {"program": 0, "rule": 3}))
        text = "program p\nanswers 1\nprocedure a\ndo b\nend\nprocedure b\ndo a\nend\nbegin\nend"
        self.assertEqual(told(read_library, text), ("ProcedureCycle", {"program": 0, "names": ("a", "b")}))
        six = "\n".join(["program p\nanswers 1\nbegin\nend"] * 6)
        self.assertEqual(told(read_library, six), ("BadLibrary", {"program": 5, "rule": 0}))

    def test_wrong_lines_come_before_errors_of_the_library(self):
        six = "\n".join(["program p\nanswers 1\nbegin\nend"] * 6)
        self.assertEqual(told(read_library, six + "\nend"), bad(25))
        self.assertEqual(told(read_library, "program p\nanswers 0\nbegin\ndo x\nend\n?"), bad(6))


class BadLineTest(unittest.TestCase):
    def test_lines_that_are_none(self):
        for line in (
            "?", "Fail", "fail 1", "fail fail", "stop", "stop stop", "stop 1 2", "stop 007", "stop 1000", "stop a b", "stop ?",
            "stop(1) 2", "stop(1)", "if", "if(x)", "if x then", "while", "while(x)", "pick", "pick(x)", "pick x case", "set",
            "set x", "set x to", "set x = 1", "set x to 1 1", "set answer to 1", "set mark to 1", "set X to 1", "set to to 1",
            "set x to(1)", "set x 1 to", "set abcdefghi to 1", "set 1 to 1", "set x, to 1", "setx to 1", "do", "do x y",
            "do line", "do 1", "do DO", "do x()", "x", "x = 1", "12", "let x to 1", "set x To 1", "begin", "procedure q",
            "given g 2", "cell y 2 0", "answers 2", "program q", "else", "case", "end 1", "set x to f(1, 2, 3, 4)",
            "if x else", "stop 1, 2", "do\tx", "stop x_y", "set x to 1 to 2", "set x to set", "fail,", "end end",
        ):
            self.assertEqual(told(read_library, in_body("fail", line)), bad(6), line)

    def test_heads(self):
        for lines, at in (
            (("program",), 1), (("program P",), 1), (("program p q",), 1), (("program stop",), 1), (("program abcdefghi",), 1),
            (("program p", "given g",), 2), (("program p", "given g 1 1",), 2), (("program p", "given G 1",), 2),
            (("program p", "given g 01",), 2), (("program p", "given g 1000",), 2), (("program p", "given g x",), 2),
            (("program p", "given g -1",), 2), (("program p", "given mark 1",), 2), (("program p", "cell x 1",), 2),
            (("program p", "cell x 1 0 0",), 2), (("program p", "cell x 1 00",), 2), (("program p", "cell x 00 0",), 2),
            (("program p", "cell line 2 0",), 2), (("program p", "cell x 2 +1",), 2), (("program p", "cell x 2 1000",), 2),
            (("program p", "answers",), 2), (("program p", "answers 1 1",), 2), (("program p", "answers x",), 2),
            (("program p", "answers 0001",), 2), (("program p", "answers 1 ; x", "answers 1",), 3),
            (("program p", "begin",), 2), (("program p", "procedure a",), 2), (("program p", "program q",), 2),
            (("program p", "cell x 1 0", "given g 1",), 3), (("program p", "given g 1", "cell x 1 0", "given h 1"), 4),
            (("program p", "answers 1", "given g 1",), 3), (("program p", "answers 1", "cell x 1 0",), 3),
            (("program p", "answers 1", "fail",), 3), (("program p", "answers 1", "end",), 3), (("program p", "end",), 2),
            (("program p", "answers 1", "procedure",), 3), (("program p", "answers 1", "procedure a b",), 3),
            (("program p", "answers 1", "procedure end",), 3), (("program p", "answers 1", "begin begin",), 3),
            (("program p", "answers 1", "procedure a", "procedure b",), 4), (("program p", "answers 1", "procedure a", "begin",), 4),
            (("program p", "answers 1", "procedure a", "end", "fail"), 5), (("program p", "answers 1", "begin", "begin"), 4),
            (("program p", "answers 1", "procedure a", "end", "answers 1"), 5), (("program p", "answers 1", "program q"), 3),
            (("given g 1",), 1), (("begin",), 1), (("end",), 1), (("fail",), 1), (("answers 1",), 1), (("else",), 1), (("case",), 1),
        ):
            rest = ("answers 1", "begin", "end")
            self.assertEqual(told(read_library, "\n".join((*lines, *rest))), bad(at), lines)

    def test_places_in_bodies(self):
        for lines, at in (
            (("else",), 1), (("case",), 1), (("if 1", "else", "else"), 3), (("if 1", "case"), 2), (("while 1", "else"), 2),
            (("while 1", "case"), 2), (("pick 1", "fail"), 2), (("pick 1", "end"), 2), (("pick 1", "else"), 2),
            (("pick 1", "pick 2"), 2), (("pick 1", "", "; x", "stop 1"), 4), (("pick 1", "case", "else"), 3),
            (("if 1", "while 1", "else"), 3), (("pick 1", "case", "while 1", "case"), 4), (("pick 1", "case 1"), 2),
            (("if 1", "else 1"), 2), (("if 1", "else", "while 1", "else"), 4), (("pick 1", "case", "if 1", "case"), 4),
            (("if 1", "else", "case"), 3), (("if 1", "pick 1", "case", "else"), 4), (("if 1", "end", "else"), 3),
        ):
            self.assertEqual(told(read_library, in_body(*lines, *["end"] * 3)), bad(at + 4), lines)

    def test_the_text_ends_too_early(self):
        lines = LARGE.split("\n")
        for count in range(len(lines)):
            text = "\n".join(lines[:count])
            self.assertEqual(told(read_library, text), bad(max(count, 1) + 1), count)
            self.assertEqual(told(read_library, text + "\n\n; x"), bad(max(count, 1) + 3), count)
        lines = EXAMPLE.split("\n")
        self.assertEqual(len(read_library("\n".join(lines[:11]))), 1)
        for count in range(12, len(lines)):
            self.assertEqual(told(read_library, "\n".join(lines[:count])), bad(count + 1), count)
        self.assertEqual(told(read_library, ""), bad(2))
        self.assertEqual(told(read_library, "\n"), bad(3))
        self.assertEqual(told(read_library, " ; only a remark"), bad(2))
        self.assertEqual(told(read_library, "program p\nanswers 1\nbegin"), bad(4))

    def test_behind_the_end(self):
        for line in ("end", "begin", "fail", "procedure a", "given g 1", "cell x 1 0", "answers 1", "x", "else", "case", "?"):
            self.assertEqual(told(read_library, f"{EXAMPLE}\n\n{line}\nend"), bad(30), line)
        self.assertEqual(len(read_library(f"{EXAMPLE}\nprogram last\nanswers 1\nbegin\nend")), 3)

    def test_one_line_changed(self):
        lines = LARGE.split("\n")
        others = ("", "?", "program q", "given h 2", "cell z 2 0", "answers 2", "procedure three", "begin", "set x to 1", "do one",
                  "stop 1", "fail", "if 1", "else", "while 1", "pick 1", "case", "end")
        for at in range(len(lines)):
            for other in others:
                changed = [*lines[:at], other, *lines[at + 1:]]
                expected = first_bad_line(changed)
                found = told(read_library, "\n".join(changed))
                if expected is not None:
                    self.assertEqual(found, bad(expected), (at, other))
                elif isinstance(found, tuple):
                    self.assertIn(found[0], ("BadLibrary", "ProcedureCycle"), (at, other))


class LineGrammar:
    """The table of point 19 over the first words of lines that are right by themselves."""

    def __init__(self, words):
        self.words = words
        self.at = 0

    def sees(self, *words):
        return self.at < len(self.words) and self.words[self.at] in words

    def need(self, *words):
        if not self.sees(*words):
            raise ValueError
        self.at += 1

    def program(self):
        self.need("program")
        for word in ("given", "cell"):
            while self.sees(word):
                self.need(word)
        self.need("answers")
        while self.sees("procedure"):
            self.need("procedure")
            self.body("end")
        self.need("begin")
        self.body("end")

    def body(self, *ends):
        """The statements up to one of the words that may end the body, and that word; it returns it."""
        while not self.sees(*ends):
            self.statement()
        self.need(*ends)
        return self.words[self.at - 1]

    def statement(self):
        self.need("set", "do", "stop", "fail", "if", "while", "pick")
        word = self.words[self.at - 1]
        if word == "while":
            self.body("end")
        elif word == "if":
            if self.body("else", "end") == "else":
                self.body("end")
        elif word == "pick":
            self.need("case")
            while self.body("case", "end") == "case":
                pass


def first_bad_line(lines):
    """The number of the first line that cannot stand, one more than there are lines, or None for a right text."""
    told_lines = [(number, line.split()[0]) for number, line in enumerate(lines, 1) if line.strip()]
    grammar = LineGrammar([word for _, word in told_lines])
    try:
        while grammar.at < len(told_lines) or grammar.at == 0:
            grammar.program()
    except ValueError:
        return told_lines[grammar.at][0] if grammar.at < len(told_lines) else len(lines) + 1
    return None


class WriteTest(unittest.TestCase):
    def test_examples(self):
        for text in (EXAMPLE, LARGE):
            self.assertEqual(write_library(read_library(text)), text)
            self.assertEqual(read_library(write_library(read_library(text))), read_library(text))
        self.assertEqual(write_library(library=Library((DIAL, SAFE))), EXAMPLE)

    def test_smallest(self):
        library = Library((Program("p", (), (), 1, (), ()),))
        self.assertEqual(write_library(library), "program p\nanswers 1\nbegin\nend")
        self.assertEqual(read_library("program p\nanswers 1\nbegin\nend"), library)

    def test_expressions_are_written_anew(self):
        text = in_body("set  x to ((x))+(x*2)", "stop not(x=1)")
        self.assertEqual(write_library(read_library(text)), in_body("  set x to x + x * 2", "  stop not x = 1"))

    def test_empty_bodies(self):
        text = in_body("  if 1", "  end", "  if 1", "  else", "    fail", "  end", "  pick 1", "  case", "  end", "  while 1", "  end")
        self.assertEqual(write_library(read_library(text)), text)
        spare = in_body("if 1", "else", "end")
        self.assertEqual(write_library(read_library(spare)), in_body("  if 1", "  end"))

    def test_the_library_stays(self):
        library = read_library(EXAMPLE)
        for _ in range(2):
            self.assertEqual(write_library(library), EXAMPLE)
        self.assertEqual(library.programs, (DIAL, SAFE))


if __name__ == "__main__":
    unittest.main()
