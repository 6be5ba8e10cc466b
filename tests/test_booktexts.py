"""Books as texts: points 71 and 72."""

import random
import re
import unittest

from sameroom.books import Book
from sameroom.booktexts import read_book, write_book
from sameroom.codes import Code
from sameroom.expressions import is_name
from sameroom.expressiontexts import read_expression, write_expression
from sameroom.lookback import origins_book
from sameroom.plain import all_states
from sameroom.walkers import walker
from tests.helping import (
    BARE, COUNT, FLIP, KINDS, LARGEST, STEP, chance_code, chance_expression, deep, rotations_of, told, wide,
)

OWN_NAMES = ("answer", "mark", "line", "finger")
HEAD = ("book", "cell x 2 0", "cell y 3 1", "places 2 0 1")
WHOLE = (
    "book",
    "given g 2",
    "given h 3",
    "cell x 2 0",
    "cell mark 3 1",
    "places 4 2 3",
    "helper one",
    "  book",
    "  given k 2",
    "  cell finger 2 0",
    "  places 2 0 1",
    "  helper two",
    "    book",
    "    cell z 1 0",
    "    places 1 0 0",
    "    end",
    "  0 -> 1 when k and two() = 0 set finger from 0 to 1 - k",
    "  end",
    "helper three",
    "  book",
    "  cell line 40 39",
    "  places 500 0 499",
    "  end",
    "0 => 1 when one(x) = three() or mark > 0",
    "1 -> 2 when 1 set mark from g to x + h",
    "1 => 3 when not x set mark from -1 to one(g) mod 7",
    "end",
)


def bad(line):
    return ("BadLine", {"line": line})


def text_of(*lines):
    return "\n".join(lines)


def with_rule(rule):
    return text_of(*HEAD, rule, "end")


class Reading:
    """A slow reader of the lines of a book text, by patterns: how far the lines are right, and whether they may end."""

    def __init__(self, text):
        self.lines = [re.sub(r"\A +| +\Z", "", line.split(";")[0]) for line in text.split("\n")]
        self.at = -1
        self.advance()

    def advance(self):
        self.at += 1
        while self.at < len(self.lines) and self.lines[self.at] == "":
            self.at += 1

    def sees(self, kind):
        return self.at < len(self.lines) and kind(re.split(" +", self.lines[self.at]))

    def take(self, kind):
        if not self.sees(kind):
            raise EOFError
        self.advance()

    def book(self):
        self.take(lambda parts: parts == ["book"])
        while self.sees(lambda parts: kind_of(parts) == "given"):
            self.advance()
        while self.sees(lambda parts: kind_of(parts) == "cell"):
            self.advance()
        self.take(lambda parts: kind_of(parts) == "places")
        while self.sees(lambda parts: kind_of(parts) == "helper"):
            self.advance()
            self.book()
        while self.sees(lambda parts: kind_of(parts) == "rule"):
            self.advance()
        self.take(lambda parts: parts == ["end"])

    def bad_line(self):
        """The number of the line that is not right, or None."""
        try:
            self.book()
            return None if self.at == len(self.lines) else self.at + 1
        except EOFError:
            return self.at + 1


def is_expression(parts):
    try:
        read_expression(" ".join(parts))
        return True
    except ValueError:
        return False


def kind_of(parts):
    """The word of a line of given cells, cells, places, helpers or rules, or None if it is none of these."""
    words = ["d" if re.fullmatch("0|[1-9][0-9]{0,3}", part) else "n" if is_name(part) else "o" if part in OWN_NAMES else part for part in parts]
    shape = " ".join(words)
    if shape in ("given n d", "cell n d d", "cell o d d", "places d d d", "helper n"):
        return words[0]
    found = re.fullmatch(r"d (->|=>) d when( .*)?", shape)
    if not found:
        return None
    first, _, change = " ".join(parts[4:]).partition("set ") if "set" in parts else (" ".join(parts[4:]), "", None)
    if change is not None:
        found = re.fullmatch(r"(\S+) from (.*?) to (.*)", change)
        if not found or not (is_name(found[1]) or found[1] in OWN_NAMES) or not is_expression([found[2]]) or not is_expression([found[3]]):
            return None
    return "rule" if is_expression([first]) else None


def chance_book(chance, depth=2):
    """A random book that is right, perhaps with helpers."""
    helpers = ()
    if depth > 0:
        helpers = tuple((name, chance_book(chance, depth - 1)) for name in ("h", "x", "two", "three")[:chance.choice((0, 0, 1, 2, 4))])
    given = (("g", 2), ("k", 3), ("j", 1))[:chance.randrange(4)]
    cells = (("x", 2, 1), ("mark", 2, 0), ("line", 40, 39), ("y", 3, 2), ("answer", 7, 0), ("finger", 1, 0))
    cells = tuple(chance.sample(cells, chance.randrange(1, 7)))
    places = chance.randrange(1, 500)
    calls = [(name, len(helper.given)) for name, helper in helpers]
    rules = []
    for _ in range(chance.randrange(5)):
        cell = chance.choice((None, *[name for name, _, _ in cells]))
        names = [name for name, *_ in given + cells if name != cell] or [0]
        guard, old, new = [chance_expression(chance, names, calls, 4) for _ in range(3)]
        change = (None, 0, 0) if cell is None else (cell, old, new)
        rules.append((chance.randrange(places), guard, *change, chance.randrange(places), chance.random() < 0.5))
    return Book(given, cells, places, tuple(rules), helpers, chance.randrange(places), chance.randrange(places))


class WriteTest(unittest.TestCase):
    def test_documented(self):
        self.assertEqual(write_book(Book((), (("x", 2, 0),), 2, ((0, 1, "x", 0, 1, 1, False),))),
                         "book\ncell x 2 0\nplaces 2 0 1\n0 -> 1 when 1 set x from 0 to 1\nend")
        helper = Book((("k", 2),), (("x", 2, 0),), 2, ())
        book = Book((), (("mark", 2, 0),), 2, ((0, ("=", ("call", "h", (1,)), 0), None, 0, 0, 1, True),), (("h", helper),))
        self.assertEqual(write_book(book=book), (
            "book\ncell mark 2 0\nplaces 2 0 1\nhelper h\n  book\n  given k 2\n  cell x 2 0\n  places 2 0 1\n  end\n"
            "0 => 1 when h(1) = 0\nend"
        ))

    def test_whole(self):
        self.assertEqual(write_book(read_book(text_of(*WHOLE))), text_of(*WHOLE))

    def test_smallest(self):
        self.assertEqual(write_book(Book((), (("x", 1, 0),), 1, (), (), 0, 0)), "book\ncell x 1 0\nplaces 1 0 0\nend")

    def test_expressions(self):
        rule = (499, ("and", ("or", "x", -7), ("not", "x")), "y", ("-", "x", ("-", 1, "x")), ("*", -999, "x"), 0, True)
        book = Book((), (("x", 40, 39), ("y", 2, 0)), 500, (rule,), (), 0, 499)
        self.assertEqual(write_book(book), (
            "book\ncell x 40 39\ncell y 2 0\nplaces 500 0 499\n"
            "499 => 0 when (x or -7) and not x set y from x - (1 - x) to -999 * x\nend"
        ))

    def test_the_book_stays(self):
        book = read_book(text_of(*WHOLE))
        other = read_book(text_of(*WHOLE))
        first = write_book(book)
        write_book(other.helpers[0][1])
        self.assertEqual(write_book(book), first)
        self.assertTrue(book == other)


class BackTest(unittest.TestCase):
    def check(self, book):
        text = write_book(book)
        self.assertIs(type(text), str)
        again = read_book(text)
        self.assertIs(type(again), Book)
        self.assertTrue(again == book)
        self.assertEqual(write_book(again), text)
        self.assertTrue(all(type(rule) is tuple and rule[6] in (True, False) and type(rule[6]) is bool for rule in again))
        self.assertIsNone(Reading(text).bad_line())

    def test_by_chance(self):
        chance = random.Random(72)
        for _ in range(150):
            self.check(chance_book(chance))

    def test_walkers_and_origins_books(self):
        chance = random.Random(73)
        for code in (STEP, COUNT, FLIP, KINDS, BARE, *[chance_code(chance) for _ in range(20)]):
            asking = Code((), (), 1, (("fail",),), (("h", code), ("i", Code((), (), 2, (("stop", 1),), (("j", code),)))))
            for one in (code, asking):
                for rotation in rotations_of(chance, one):
                    for homeward in ("tour", "return"):
                        self.check(walker(one, rotation=rotation, homeward=homeward))
                self.check(~walker(one))
                self.check(origins_book(one, chance.choice(list(all_states(one)))))

    def test_five_books_within_one_another(self):
        book = Book((), (("x", 2, 0),), 2, ())
        for name in ("a", "b", "c", "d"):
            book = Book((("k", 2),), (("x", 2, 0),), 2, ((0, ("call", name, ("k",) * len(book.given)), None, 0, 0, 1, False),), ((name, book),))
        self.check(book)
        self.assertEqual(write_book(book).split("\n")[-1], "end")
        self.assertIn("\n        book\n", write_book(book))

    def test_large_expressions(self):
        # 120 nodes and depth 20, and a text with 400 characters.
        for expression in (wide(119), wide(120), deep(20)):
            self.check(Book((), (("x", 2, 0), ("y", 2, 0)), 2, ((0, expression, "y", expression, expression, 1, True),)))
        text = "x + 100" + " * (x + 10)" * 10
        self.check(read_book(text_of(*HEAD, f"0 -> 1 when {text}", "end")))


class ReadTest(unittest.TestCase):
    def test_whole(self):
        two = Book((), (("z", 1, 0),), 1, (), (), 0, 0)
        one = Book((("k", 2),), (("finger", 2, 0),), 2, (
            (0, ("and", "k", ("=", ("call", "two", ()), 0)), "finger", 0, ("-", 1, "k"), 1, False),
        ), (("two", two),))
        three = Book((), (("line", 40, 39),), 500, (), (), 0, 499)
        rules = (
            (0, ("or", ("=", ("call", "one", ("x",)), ("call", "three", ())), (">", "mark", 0)), None, 0, 0, 1, True),
            (1, 1, "mark", "g", ("+", "x", "h"), 2, False),
            (1, ("not", "x"), "mark", -1, ("mod", ("call", "one", ("g",)), 7), 3, True),
        )
        book = Book((("g", 2), ("h", 3)), (("x", 2, 0), ("mark", 3, 1)), 4, rules, (("one", one), ("three", three)), 2, 3)
        self.assertTrue(read_book(text_of(*WHOLE)) == book)
        self.assertTrue(read_book(text=text_of(*WHOLE)) == book)

    def test_remarks_spaces_and_empty_lines(self):
        book = read_book(text_of(*WHOLE))
        for line in ("", "   ", "; a remark", "  ;", ";;book"):
            self.assertTrue(read_book(text_of(line, *[part for each in WHOLE for part in (each, line)], line)) == book)
        for lines in (
            [line.strip() for line in WHOLE], ["     " + line + "   " for line in WHOLE], [line.replace(" ", "   ") for line in WHOLE],
            [line + ";" for line in WHOLE], [line + " ; end" for line in WHOLE], [line + ";; % ~" for line in WHOLE],
        ):
            self.assertTrue(read_book(text_of(*lines)) == book)

    def test_expressions_stand_in_lines_as_they_are(self):
        for rule, expected in (
            ("0 -> 1 when x=0", (0, ("=", "x", 0), None, 0, 0, 1, False)),
            ("0=> 1 when x", None), ("0 =>1 when x", None), ("0 => 1 whenx", None), ("0->1 when x", None), ("0 - > 1 when x", None),
            ("0 => 1 when(x)", None), ("0 => 1 when (x)", (0, "x", None, 0, 0, 1, True)),
            ("0 => 1 when  ( x )set y from 0 to 1", None), ("0 => 1 when (x) set y from(0) to 1", None),
            ("0 => 1 when (x) set y from (0)to 1", None), ("0 => 1 when (x) set y from (0) to(1)", None),
            ("0 => 1 when (x) set y from (0) to (1)", (0, "x", "y", 0, 1, 1, True)),
            ("1 -> 0 when x  set  y  from  -  3  to  x  -  - 1", (1, "x", "y", -3, ("-", "x", -1), 0, False)),
        ):
            read = told(read_book, with_rule(rule))
            self.assertEqual(read.rules if isinstance(read, Book) else read, bad(5) if expected is None else (expected,), rule)

    def test_numbers(self):
        # Each number of each line; the bounds do not matter for reading, but errors of Book may follow.
        frames = (
            ("given g {}", 2), ("cell x {} 0", 3), ("cell x 2 {}", 3), ("places {} 0 1", 4), ("places 2 {} 1", 4), ("places 2 0 {}", 4),
            ("{} -> 0 when 1", 5), ("0 -> {} when 1", 5),
        )
        for line, at in frames:
            rows = ["book", "given g 2", "cell x 2 0", "places 2 0 1", "0 -> 1 when 1", "end"]
            for number in ("0", "1", "9", "10", "999", "1000", "9999"):
                rows[at - 1] = line.format(number)
                read = told(read_book, text_of(*rows))
                self.assertTrue(isinstance(read, Book) or read[0] == "BadBook", rows)
            for number in ("00", "007", "01", "-0", "-1", "+1", "1.", "x", "10000", "12345", "9" * 50, "1 0", "", "1a", "a1", "1,"):
                rows[at - 1] = line.format(number)
                self.assertEqual(told(read_book, text_of(*rows)), bad(at), rows)

    def test_numbers_in_expressions_are_smaller(self):
        self.assertIsInstance(told(read_book, with_rule("0 -> 1 when 999")), Book)
        self.assertEqual(told(read_book, with_rule("0 -> 1 when 1000")), bad(5))
        self.assertEqual(told(read_book, with_rule("0 -> 1 when x set y from 1000 to 0")), bad(5))

    def test_names(self):
        def book(line):
            return read_book(text_of("book", line, "places 2 0 1", "end"))
        for name in OWN_NAMES:
            self.assertEqual(book(f"cell {name} 2 0").cells, ((name, 2, 0),))
            self.assertEqual(told(book, f"given {name} 2"), bad(2))
            self.assertEqual(told(read_book, text_of(*HEAD, f"helper {name}", *HEAD, "end", "end")), bad(5))
        for name in ("stop", "book", "set", "when", "cell", "places", "from", "helper", "X", "x_", "3x", "a" * 9, "x,", "x=0"):
            self.assertEqual(told(book, f"cell {name} 2 0"), bad(2))
            self.assertEqual(told(book, f"given {name} 2"), bad(2))
            self.assertEqual(told(read_book, text_of(*HEAD, f"helper {name}", *HEAD, "end", "end")), bad(5))
            self.assertEqual(told(read_book, with_rule(f"0 -> 1 when 1 set {name} from 0 to 0")), bad(5))
        rules = read_book(text_of("book", "cell mark 2 0", "cell finger 2 0", "places 2 0 1", "0 -> 1 when finger set mark from finger to 1", "end")).rules
        self.assertEqual(rules, ((0, "finger", "mark", "finger", 1, 1, False),))


class BadLineTest(unittest.TestCase):
    def test_documented(self):
        self.assertEqual(told(read_book, "book\ncell x 2 0\nplaces 2 0 1\n0 -> 1 when 1 set x from 0\nend"), bad(4))
        self.assertEqual(told(read_book, "book\ncell x 2 0\nplaces 2 0 1\n"), bad(5))
        book = read_book("book ; two places\n  cell x 2 0\nplaces 2 0 1\n\n0 => 1 when x=0\nend")
        self.assertEqual(book.rules, ((0, ("=", "x", 0), None, 0, 0, 1, True),))

    def test_the_end_comes_too_early(self):
        for many in range(len(WHOLE)):
            for behind in (0, 1, 2, 5):
                self.assertEqual(told(read_book, text_of(*WHOLE[:many]) + "\n" * behind), bad(max(many, 1) + behind + 1), many)
            self.assertEqual(told(read_book, text_of(*WHOLE[:many], " ; end")), bad(many + 2))
        self.assertEqual(told(read_book, ""), bad(2))
        self.assertEqual(told(read_book, "\n\n"), bad(4))

    def test_behind_the_end(self):
        for line in WHOLE:
            self.assertEqual(told(read_book, text_of(*WHOLE, line)), bad(len(WHOLE) + 1))
            self.assertEqual(told(read_book, text_of(*WHOLE, "", "; more", line)), bad(len(WHOLE) + 3))
        self.assertEqual(told(read_book, text_of(*WHOLE, "?")), bad(len(WHOLE) + 1))
        self.assertIsInstance(told(read_book, text_of(*WHOLE, "", " ", "; ?", "")), Book)

    def test_lines_missing_doubled_and_in_another_order(self):
        changed = []
        for at in range(len(WHOLE)):
            changed.append([*WHOLE[:at], *WHOLE[at + 1:]])
            changed.append([*WHOLE[:at + 1], *WHOLE[at:]])
            for other in range(len(WHOLE)):
                changed.append([*WHOLE[:at], WHOLE[other], *WHOLE[at + 1:]])
                changed.append([*WHOLE[:at], WHOLE[other], *WHOLE[at:]])
        self.check_all(changed)

    def test_parts_too_many_and_too_few(self):
        changed = []
        for at, line in enumerate(WHOLE):
            parts = line.split()
            for number in range(len(parts)):
                for instead in ([], [parts[number]] * 2, ["0"], ["x"], ["10000"], ["007"], ["set"], ["from"], ["to"], ["when"], ["->"], ["=>"], ["("], ["?"]):
                    changed.append([*WHOLE[:at], " ".join([*parts[:number], *instead, *parts[number + 1:]]), *WHOLE[at + 1:]])
            changed.append([*WHOLE[:at], line + " x", *WHOLE[at + 1:]])
            changed.append([*WHOLE[:at], "x " + line, *WHOLE[at + 1:]])
        self.check_all(changed)

    def test_signs_by_chance(self):
        chance = random.Random(74)
        changed = []
        for _ in range(3000):
            text = text_of(*WHOLE)
            for _ in range(chance.randrange(1, 3)):
                at = chance.randrange(len(text))
                text = text[:at] + chance.choice(("", " ", "\n", ";", "x", "0", "(", "->", "=", "end", "book\n", "A", "~")) + text[at + chance.randrange(2):]
            changed.append(text.split("\n"))
        self.check_all(changed)

    def check_all(self, texts):
        right = 0
        for lines in texts:
            at = Reading(text_of(*lines)).bad_line()
            read = told(read_book, text_of(*lines))
            if at is None:
                right += 1
                self.assertTrue(isinstance(read, Book) or read[0] == "BadBook", lines)
            else:
                self.assertEqual(read, bad(at), lines)
        self.assertGreater(right, 0)

    def test_rules(self):
        right = "0 -> 1 when x and 1 set y from x to x + 1"
        parts = right.split()
        for many in range(1, len(parts) + 1):
            read = told(read_book, with_rule(" ".join(parts[:many])))
            if many in (5, 7, 13, 15):
                self.assertIsInstance(read, Book, many)
            else:
                self.assertEqual(read, bad(5), many)
        for wrong in ("0 -> 1", "0 -> 1 when", "0 -> 1 when set y from 0 to 1", "0 -> 1 when 1 set", "0 -> 1 when 1 set y", "0 -> 1 when 1 set y from",
                      "0 -> 1 when 1 set y from to 1", "0 -> 1 when 1 set y from 0 to", "0 -> 1 when 1 set y from 0 to 1 to 1",
                      "0 -> 1 when 1 set y from 0 from 0 to 1", "0 -> 1 when 1 set y set y from 0 to 1", "0 -> 1 when 1 set y to 1 from 0",
                      "0 -> 1 when 1 set y z from 0 to 1", "0 -> 1 when 1 when 1", "0 -> 1 when when", "0 -> 1 when 1 from 0 to 1",
                      "0 -> 1 when 1 2", "0 -> 1 when ?", "0 <- 1 when 1", "0 1 when 1", "-> 1 when 1", "0 -> when 1", "0 -> 1 if 1",
                      "0 -> 1 when 1 set y from 0 to 1 end", "0 -> 1 when x x set y from 0 to 1", "0 -> 1 when x set y from 0 0 to 1",
                      "0 -> 1 when x set y from 0 to 1 1", "0 -> 1 when (x set y from 0 to 1)", "0 -> 1 when 1 SET y from 0 to 1"):
            self.assertEqual(told(read_book, with_rule(wrong)), bad(5), wrong)


class BookErrorTest(unittest.TestCase):
    def test_only_the_form_counts_for_reading(self):
        for lines, rule in (
            (("places 2 0 1", "end"), -1), (("cell x 0 0", "places 2 0 1", "end"), -1), (("cell x 2 2", "places 2 0 1", "end"), -1),
            (("given x 2", "cell x 2 0", "places 2 0 1", "end"), -1), (("given g 9", "cell x 2 0", "places 2 0 1", "end"), -1),
            (("cell x 41 0", "places 2 0 1", "end"), -1), (("cell x 2 0", "places 0 0 0", "end"), -1),
            (("cell x 2 0", "places 501 0 1", "end"), -1), (("cell x 2 0", "places 2 2 0", "end"), -1), (("cell x 2 0", "places 2 0 2", "end"), -1),
            (("cell x 2 0", "places 2 0 1", "0 -> 2 when 1", "end"), 0), (("cell x 2 0", "places 2 0 1", "2 -> 0 when 1", "end"), 0),
            (("cell x 2 0", "places 2 0 1", "0 -> 1 when 1", "0 -> 1 when z", "end"), 1),
            (("cell x 2 0", "places 2 0 1", "0 -> 1 when f()", "end"), 0), (("cell x 2 0", "places 2 0 1", "0 -> 1 when 1 set z from 0 to 1", "end"), 0),
            (("cell x 2 0", "places 2 0 1", "0 -> 1 when x set x from 0 to 1", "end"), 0),
            (("cell x 2 0", "places 2 0 1", "0 -> 1 when mark", "end"), 0),
        ):
            self.assertEqual(told(read_book, text_of("book", *lines)), ("BadBook", {"rule": rule}), lines)

    def test_too_many(self):
        cells = tuple(f"cell {name} 2 0" for name in "abcdefg")
        self.assertEqual(told(read_book, text_of("book", *cells, "places 2 0 1", "end")), ("BadBook", {"rule": -1}))
        self.assertIsInstance(told(read_book, text_of("book", *cells[1:], "places 2 0 1", "end")), Book)
        rules = ("0 -> 1 when 1",) * 2001
        self.assertEqual(told(read_book, text_of(*HEAD, *rules, "end")), ("BadBook", {"rule": -1}))
        self.assertEqual(len(read_book(text_of(*HEAD, *rules[1:], "end"))), 2000)
        helper = ("book", "cell x 1 0", "places 1 0 0", "end")
        helpers = [line for name in "abcde" for line in (f"helper {name}", *helper)]
        self.assertEqual(told(read_book, text_of(*HEAD, *helpers, "end")), ("BadBook", {"rule": -1}))
        self.assertEqual(len(read_book(text_of(*HEAD, *helpers[5:], "end")).helpers), 4)
        self.assertEqual(told(read_book, text_of(*HEAD, *helpers[:5], *helpers[:5], "end")), ("BadBook", {"rule": -1}))

    def test_deep_expressions(self):
        text = " + ".join(["x"] * 21)
        self.assertEqual(told(read_book, with_rule(f"0 -> 1 when {text}")), ("BadBook", {"rule": 0}))
        text = " + ".join(["x"] * 20)
        self.assertIsInstance(told(read_book, with_rule(f"0 -> 1 when {text}")), Book)

    def test_wrong_lines_come_first(self):
        self.assertEqual(told(read_book, text_of("book", "places 9 9 9", "0 -> 1 when z", "?")), bad(4))
        self.assertEqual(told(read_book, text_of("book", "places 9 9 9", "0 -> 1 when z")), bad(4))
        self.assertEqual(told(read_book, text_of("book", "places 9 9 9", "end", "end")), bad(4))

    def test_helpers_come_first(self):
        def helper(*rules, places="places 9 0 1"):
            return ("book", "cell x 2 0", places, *rules, "end")

        def error(*lines):
            return told(read_book, text_of(*lines))
        right, wrong = "0 -> 1 when 1", "0 -> 1 when z"
        first, second = helper(right, wrong), helper(right, right, wrong)
        for around in ("places 2 0 5", "places 2 0 1"):
            head = ("book", "cell x 2 0", around)
            self.assertEqual(error(*head, "helper a", *first, "helper b", *second, wrong, "end"), ("BadBook", {"rule": 1}))
            self.assertEqual(error(*head, "helper b", *second, "helper a", *first, wrong, "end"), ("BadBook", {"rule": 2}))
            self.assertEqual(error(*head, "helper a", *helper(right), "helper b", *second, wrong, "end"), ("BadBook", {"rule": 2}))
            # A helper within a helper ends before it, and before the next one.
            nested = ("book", "cell x 2 0", "places 2 0 9", "helper c", *helper(*[right] * 3, wrong), wrong, "end")
            self.assertEqual(error(*head, "helper a", *nested, "helper b", *first, "end"), ("BadBook", {"rule": 3}))
            self.assertEqual(error(*head, "helper b", *first, "helper a", *nested, "end"), ("BadBook", {"rule": 1}))
            nested = ("book", "cell x 2 0", "places 2 0 9", "helper c", *helper(*[right] * 3), wrong, "end")
            self.assertEqual(error(*head, "helper a", *nested, "helper b", *first, "end"), ("BadBook", {"rule": -1}))
        self.assertEqual(error("book", "cell x 2 0", "places 2 0 5", "helper h", "  book", "  cell y 2 0", "  places 1 0 0", "  0 -> 1 when 1",
                               "  end", "end"), ("BadBook", {"rule": 0}))


class QuickTest(unittest.TestCase):
    def test_largest(self):
        book = walker(LARGEST, homeward="return")
        rules = book.rules[:2000 // 3]
        book = Book(book.given, book.cells, book.places, rules * 3)
        text = write_book(book)
        self.assertGreater(len(text), 80000)
        self.assertTrue(read_book(text) == book)

    def test_200000_characters(self):
        expression = " * ".join(["(" + " + ".join(["x"] * 8) + ")"] * 7)
        rule = f"0 -> 1 when {expression} set y from {expression} to {expression}"
        many = (200000 - 60) // (len(rule) + 1)
        text = text_of(*HEAD, *[rule] * many, "end")
        book = read_book(text)
        self.assertEqual(len(book), many)
        self.assertEqual(write_book(book), text)
        self.assertEqual(book.rules[0][1], read_expression(expression))
        self.assertEqual(write_expression(book.rules[-1][4]), expression)

    def test_long_lines(self):
        self.assertEqual(told(read_book, "book" + " " * 199990), bad(2))
        self.assertEqual(told(read_book, "\n" * 200000), bad(200002))
        self.assertEqual(told(read_book, "book\n" * 40000), bad(2))
        self.assertEqual(told(read_book, text_of(*HEAD, "0 -> 1 when " + "x " * 90000, "end")), bad(5))
        self.assertEqual(len(read_book(text_of(*HEAD, "0 -> 1 when" + " " * 190000 + "x;" + ";" * 5000, "end"))), 1)
        self.assertEqual(told(read_book, text_of(*HEAD, "1" * 190000 + " -> 1 when x", "end")), bad(5))


if __name__ == "__main__":
    unittest.main()
