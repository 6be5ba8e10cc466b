"""What several tests share: looking at raised errors and at kinds of values, and making things by chance.

Also slow ways to answer questions, straight from the words of the document.
"""

import random

from sameroom.codes import Code
from sameroom.errors import RoomError
from sameroom.fingers import across
from sameroom.plain import start_state
from sameroom.programs import Library, Program
from sameroom.rotations import Rotation, lean_rotation
from sameroom.running import advance, book_next, course
from sameroom.slots import finger_count

STEP = Code((), (("x", 2, 0),), 2, (("set", "x", ("+", "x", 1), 1), ("stop", "x")))
COUNT = Code((), (("x", 3, 0),), 3, (
    ("set", "x", ("mod", ("+", "x", 1), 3), 1), ("pick", ("=", "x", 2), (0, 2)), ("stop", "x"),
))
FLIP = Code((), (("x", 2, 0),), 1, (("set", "x", ("-", 1, "x"), 0),))
# Every kind of line; it begins at line 1.
KINDS = Code((("g", 3),), (("x", 2, 1),), 2, (
    ("set", "x", ("-", "g", "x"), 1), ("pick", "g", (0, 0, 2)), ("stop", "x"), ("fail",),
), (), 1)
BARE = Code((), (), 1, (("fail",),))
# From every state the run ends, after up to 1536 lines.
LARGEST = Code((("g", 8), ("h", 4)), (("x", 8, 0), ("y", 8, 0)), 9, (
    *[("set", "x", ("mod", ("+", ("+", "x", 1), ("*", 0, "g")), 8), line + 1) for line in range(21)],
    ("pick", ("and", ("=", "x", 0), ("=", "y", 7)), (22, 23)), ("set", "y", ("mod", ("+", "y", ("=", "x", 0)), 8), 0),
    ("stop", ("+", "h", ("div", "g", 2))),
))
BINARY = ("or", "and", "=", "!=", "<", "<=", ">", ">=", "+", "-", "*", "div", "mod")


def told(function, *args, **more):
    """What a call returns, or the name and the fields of the RoomError that it raises."""
    try:
        return function(*args, **more)
    except RoomError as error:
        return (type(error).__name__, vars(error))


def is_plain(value):
    """Whether a value is a string, a whole number that is no bool, None, or a tuple of such at every level."""
    if type(value) is tuple:
        return all(is_plain(item) for item in value)
    return value is None or type(value) in (int, str)


def deep(depth):
    """An expression with this depth and as many nodes."""
    expression = "x"
    for _ in range(depth - 1):
        expression = ("not", expression)
    return expression


def wide(nodes):
    """An expression with this number of nodes, as shallow as possible."""
    parts = [1] * ((nodes + 1) // 2)
    while len(parts) > 1:
        pairs = [("+", parts[at], parts[at + 1]) for at in range(0, len(parts) - 1, 2)]
        parts = pairs + parts[len(pairs) * 2:]
    return parts[0] if nodes % 2 == 1 else ("not", wide(nodes - 1))


def chance_expression(chance, names, calls=(), depth=4):
    """A random expression; `calls` are pairs of a name and the number of its arguments."""
    kind = chance.randrange(8) if depth > 1 else 0
    if kind == 0:
        return chance.choice((*names, chance.randrange(-4, 9), chance.randrange(-4, 9)))
    if kind == 1:
        return ("not", chance_expression(chance, names, calls, depth - 1))
    if kind == 2 and calls:
        name, count = chance.choice(calls)
        return ("call", name, tuple(chance_expression(chance, names, calls, depth - 1) for _ in range(count)))
    left = chance_expression(chance, names, calls, depth - 1)
    right = chance_expression(chance, names, calls, depth - 1)
    return (chance.choice(BINARY), left, right)


def slow_value(expression, values, helpers):
    """The value of an expression, straight from the words of the document; `helpers` is a dict."""
    if isinstance(expression, int):
        return expression
    if isinstance(expression, str):
        return values[expression]
    parts = expression[2] if expression[0] == "call" else expression[1:]
    numbers = tuple(slow_value(part, values, helpers) for part in parts)
    if expression[0] == "call":
        return helpers[expression[1]].call_value(numbers)
    if expression[0] == "not":
        return int(numbers[0] == 0)
    left, right = numbers
    return {
        "or": int(bool(left) or bool(right)), "and": int(bool(left) and bool(right)),
        "=": int(left == right), "!=": int(left != right), "<": int(left < right),
        "<=": int(left <= right), ">": int(left > right), ">=": int(left >= right),
        "+": left + right, "-": left - right, "*": left * right,
        "div": left // right if right else 0, "mod": left % right if right else left,
    }[expression[0]]


def slow_step(code, given, state):
    """The next state and the outcome number, straight from the words of the document; one is None."""
    line, values = state
    row = code.lines[line]
    fault = (None, 1 + code.answers + line)
    known = dict(zip([name for name, _ in code.given], given))
    known.update(zip([name for name, _, _ in code.cells], values))
    if row[0] == "fail":
        return fault
    value = slow_value(row[2] if row[0] == "set" else row[1], known, dict(code.helpers))
    if row[0] == "stop":
        return (None, 1 + value) if value in range(code.answers) else fault
    if row[0] == "pick":
        return ((row[2][value], values), None) if value in range(len(row[2])) else fault
    names = [name for name, _, _ in code.cells]
    sizes = [size for _, size, _ in code.cells]
    at = names.index(row[1])
    if value not in range(sizes[at]):
        return fault
    known[row[1]] = value
    return ((row[3], tuple(known[name] for name in names)), None)


def slow_rule_result(book, given, state, rule):
    """The state after a rule of a book, or None, straight from the words of the document."""
    names = [cell[0] for cell in book.cells]
    values = dict(zip([name for name, _ in book.given] + names, given + state[1]))
    helpers = dict(book.helpers)
    if rule[0] != state[0] or slow_value(rule[1], values, helpers) == 0:
        return None
    if rule[2] is None:
        return (rule[5], state[1])
    new = slow_value(rule[4], values, helpers)
    if slow_value(rule[3], values, helpers) != values[rule[2]] or new not in range(book.cells[names.index(rule[2])][1]):
        return None
    return (rule[5], tuple(new if name == rule[2] else values[name] for name in names))


def states_of(book):
    """All states of a book."""
    rows = [()]
    for _, size, _ in book.cells:
        rows = [row + (value,) for row in rows for value in range(size)]
    return [(place, row) for place in range(book.places) for row in rows]


def chance_code(chance, helpers=()):
    given = (("g", chance.randrange(1, 3)), ("x", 2))[:chance.randrange(3)]
    cells = (("a", chance.randrange(1, 4), 0), ("b", 3, chance.randrange(3)), ("c", 2, 1))[:chance.randrange(4)]
    names = [cell[0] for cell in given + cells] or [0]
    calls = [(name, len(helper.given)) for name, helper in helpers]
    count = chance.randrange(1, 7)
    lines = []
    for _ in range(count):
        expression = chance_expression(chance, names, calls, 3)
        kind = chance.choice(("set", "set", "set", "pick", "pick", "stop", "fail"))
        if kind == "set" and cells:
            cell = chance.choice(cells)
            expression = ("mod", expression, chance.choice((cell[1], cell[1], cell[1] + 1)))
            lines.append(("set", cell[0], expression, chance.randrange(count)))
        elif kind == "pick":
            targets = tuple(chance.randrange(count) for _ in range(chance.randrange(1, 7)))
            lines.append(("pick", ("mod", expression, 7), targets))
        else:
            lines.append(("stop", expression) if kind == "stop" else ("fail",))
    return Code(given, cells, chance.randrange(1, 5), tuple(lines), helpers, chance.randrange(count))


def small_codes(seed, count, most):
    """Random codes with few states."""
    chance = random.Random(seed)
    found = []
    while len(found) < count:
        code = chance_code(chance)
        if code.state_count <= most:
            found.append(code)
    return found


def givens_of(code):
    rows = [()]
    for _, size in code.given:
        rows = [row + (value,) for row in rows for value in range(size)]
    return rows


def chance_statement(chance, cells, names, procedures, calls, depth):
    expression = chance_expression(chance, names, calls, 3)
    kinds = ["set"] * 4 * bool(cells) + ["if", "while", "pick"] * (depth > 0) + ["do"] * 2 * bool(procedures) + ["stop", "fail"]
    kind = chance.choice(kinds)
    if kind == "set":
        cell = chance.choice(cells)
        return ("set", cell[0], ("mod", expression, chance.choice((cell[1], cell[1], cell[1] + 1))))
    if kind == "do":
        return ("do", chance.choice(procedures))
    if kind in ("stop", "fail"):
        return (kind, expression)[:1 + (kind == "stop")]
    inner = [chance_body(chance, cells, names, procedures, calls, depth - 1) for _ in range(chance.randrange(1, 5))]
    if kind == "pick":
        return ("pick", ("mod", expression, 4), tuple(inner))
    return ("if", expression, inner[0], inner[-1]) if kind == "if" else ("while", expression, inner[0])


def chance_body(chance, cells, names, procedures, calls, depth):
    count = chance.choice((0, 1, 1, 2, 2, 3))
    return tuple(chance_statement(chance, cells, names, procedures, calls, depth) for _ in range(count))


def chance_program(chance, name, earlier):
    given = (("g", chance.randrange(1, 4)), ("k", 2))[:chance.randrange(3)]
    cells = (("a", chance.randrange(1, 4), 0), ("b", 3, chance.randrange(3)))[:chance.randrange(3)]
    names = [cell[0] for cell in given + cells] or [0]
    calls = [(program.name, len(program.given)) for program in earlier]
    procedures = []
    for procedure in ("p", "q", "r")[:chance.randrange(4)]:
        done = [before for before, _ in procedures]
        procedures.append((procedure, chance_body(chance, cells, names, done, calls, 1)))
    done = [before for before, _ in procedures]
    body = chance_body(chance, cells, names, done, calls, 2) + chance_body(chance, cells, names, done, calls, 2)
    return Program(name, given, cells, chance.randrange(1, 4), tuple(procedures), body)


def chance_library(chance, count):
    """A library of random programs that keeps all rules."""
    programs = ()
    while len(programs) < count:
        program = chance_program(chance, "abcde"[len(programs)], programs)
        if isinstance(told(Library, programs + (program,)), Library):
            programs = programs + (program,)
    return Library(programs)


def rotations_of(chance, code):
    """The plain rotation, the lean one, and one with its rows in any order and some of the unused fingers."""
    lean = lean_rotation(code)
    rows = []
    for line, row in enumerate(lean.rows):
        more = [finger for finger in range(finger_count(code, line)) if finger not in row and chance.random() < 0.5]
        row = [*row, *more]
        chance.shuffle(row)
        rows.append(tuple(row))
    return (Rotation(code), lean, Rotation(code, tuple(rows)))


def slow_onward(code, given, pointer, rotation):
    state, finger = across(code, given, *pointer)
    row = rotation.rows[state[0]]
    return state, row[(row.index(finger) + 1) % len(row)]


def slow_tour(code, given, rotation):
    """The tour of the pointer (start state, 1)."""
    first = (start_state(code), 1)
    tour = [first]
    while True:
        pointer = slow_onward(code, given, tour[-1], rotation)
        if pointer == first:
            return tour
        tour.append(pointer)


def check_reversible(test, book):
    """No two rules apply at one state or lead to one state; so the inverse leads back."""
    for given in givens_of(book):
        behind = {}
        for state in states_of(book):
            results = [result for result in [slow_rule_result(book, given, state, rule) for rule in book] if result is not None]
            test.assertLessEqual(len(results), 1)
            for result in results:
                test.assertNotIn(result, behind)
                behind[result] = state
                test.assertEqual(book_next(book, given, state), result)
        back = ~book
        test.assertTrue(all(book_next(back, given, result) == state for result, state in behind.items()))
        at_no_rule = [state for state in states_of(book) if book_next(book, given, state) is None]
        unreached = [state for state in states_of(book) if state not in behind]
        test.assertEqual(len(at_no_rule), len(unreached))
        for state in unreached:
            test.assertEqual(course(book, given, state)[0], "ends")
        for state in list(behind)[::7]:
            kind, steps, final = course(book, given, state)
            if kind == "ends":
                test.assertEqual(advance(back, given, final, steps), state)
            else:
                test.assertEqual(steps, 0)
