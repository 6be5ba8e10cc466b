"""Reads the lines of a library text, one after the other."""

from sameroom.expressions import is_name
from sameroom.expressiontokens import MOST_DIGITS, is_number
from sameroom.programs import Program
from sameroom.textlines import behind_parts, line_parts, told_expression

# Where a program stands: the line that came last tells which ones may follow.
OUTSIDE = 0
AT_GIVEN = 1
AT_CELLS = 2
BEHIND_ANSWERS = 3


class Block:
    """A procedure, a main body or a statement with bodies, whose `end` has not come yet."""

    def __init__(self, kind, head, bodies):
        self.kind = kind
        # The name of a procedure or the expression of a statement; nothing for a main body.
        self.head = head
        # The bodies so far, as lists of statements; the last one still grows.
        self.bodies = bodies

    def statement(self):
        """The statement that the block has become."""
        bodies = tuple([tuple(body) for body in self.bodies])
        if self.kind == "pick":
            return ("pick", self.head, bodies)
        if self.kind == "while":
            return ("while", self.head, bodies[0])
        return ("if", self.head, bodies[0], bodies[1] if len(bodies) > 1 else ())


class LibraryReader:
    """What has been read of a library text so far."""

    def __init__(self):
        self.finished = []
        self.place = OUTSIDE
        self.blocks = []
        self.begin_program("")

    def begin_program(self, name):
        self.name = name
        self.given = []
        self.cells = []
        self.answers = 0
        self.procedures = []

    def finish_program(self, body):
        program = Program(
            self.name, tuple(self.given), tuple(self.cells), self.answers, tuple(self.procedures), body
        )
        self.finished.append(program)
        self.place = OUTSIDE

    def statement_may_stand(self):
        """Whether a body is open, so that a statement may stand here; not so in front of the first `case`."""
        return self.blocks != [] and self.blocks[-1].bodies != []

    def add_statement(self, statement):
        self.blocks[-1].bodies[-1].append(statement)

    def innermost_kind(self):
        return self.blocks[-1].kind if self.blocks else ""

    def may_end(self):
        return self.place == OUTSIDE and self.finished != []


# Each of the following takes one kind of line, and returns False where that line is not right or cannot stand.


def _take_program(reader, parts, _):
    if reader.place != OUTSIDE or len(parts) != 2 or not is_name(parts[1]):
        return False
    reader.begin_program(parts[1])
    reader.place = AT_GIVEN
    return True


def _take_given(reader, parts, _):
    if reader.place != AT_GIVEN or len(parts) != 3:
        return False
    if not is_name(parts[1]) or not is_number(parts[2], MOST_DIGITS):
        return False
    reader.given.append((parts[1], int(parts[2])))
    return True


def _take_cell(reader, parts, _):
    if reader.place not in (AT_GIVEN, AT_CELLS) or len(parts) != 4 or not is_name(parts[1]):
        return False
    if not is_number(parts[2], MOST_DIGITS) or not is_number(parts[3], MOST_DIGITS):
        return False
    reader.cells.append((parts[1], int(parts[2]), int(parts[3])))
    reader.place = AT_CELLS
    return True


def _take_answers(reader, parts, _):
    if reader.place not in (AT_GIVEN, AT_CELLS) or len(parts) != 2 or not is_number(parts[1], MOST_DIGITS):
        return False
    reader.answers = int(parts[1])
    reader.place = BEHIND_ANSWERS
    return True


def _take_procedure(reader, parts, _):
    if reader.place != BEHIND_ANSWERS or reader.blocks or len(parts) != 2 or not is_name(parts[1]):
        return False
    reader.blocks.append(Block("procedure", parts[1], [[]]))
    return True


def _take_begin(reader, parts, _):
    if reader.place != BEHIND_ANSWERS or reader.blocks or len(parts) != 1:
        return False
    reader.blocks.append(Block("begin", None, [[]]))
    return True


def _take_set(reader, parts, line):
    if not reader.statement_may_stand() or len(parts) < 4 or not is_name(parts[1]) or parts[2] != "to":
        return False
    expression = told_expression(behind_parts(line, 3))
    if expression is None:
        return False
    reader.add_statement(("set", parts[1], expression))
    return True


def _take_do(reader, parts, _):
    if not reader.statement_may_stand() or len(parts) != 2 or not is_name(parts[1]):
        return False
    reader.add_statement(("do", parts[1]))
    return True


def _take_stop(reader, _, line):
    expression = told_expression(behind_parts(line, 1))
    if not reader.statement_may_stand() or expression is None:
        return False
    reader.add_statement(("stop", expression))
    return True


def _take_fail(reader, parts, _):
    if not reader.statement_may_stand() or len(parts) != 1:
        return False
    reader.add_statement(("fail",))
    return True


def _take_opening(reader, parts, line):
    """Takes the first line of an `if`, a `while` or a `pick`."""
    expression = told_expression(behind_parts(line, 1))
    if not reader.statement_may_stand() or expression is None:
        return False
    reader.blocks.append(Block(parts[0], expression, [] if parts[0] == "pick" else [[]]))
    return True


def _take_else(reader, parts, _):
    if reader.innermost_kind() != "if" or len(reader.blocks[-1].bodies) != 1 or len(parts) != 1:
        return False
    reader.blocks[-1].bodies.append([])
    return True


def _take_case(reader, parts, _):
    if reader.innermost_kind() != "pick" or len(parts) != 1:
        return False
    reader.blocks[-1].bodies.append([])
    return True


def _take_end(reader, parts, _):
    if not reader.statement_may_stand() or len(parts) != 1:
        return False
    block = reader.blocks.pop()
    if block.kind == "begin":
        reader.finish_program(tuple(block.bodies[0]))
    elif block.kind == "procedure":
        reader.procedures.append((block.head, tuple(block.bodies[0])))
    else:
        reader.add_statement(block.statement())
    return True


TAKERS = {
    "program": _take_program, "given": _take_given, "cell": _take_cell, "answers": _take_answers,
    "procedure": _take_procedure, "begin": _take_begin,
    "set": _take_set, "do": _take_do, "stop": _take_stop, "fail": _take_fail,
    "if": _take_opening, "while": _take_opening, "pick": _take_opening,
    "else": _take_else, "case": _take_case, "end": _take_end,
}


def take_line(reader, line):
    """Takes the next line that is not empty; False if it is not right or cannot stand here."""
    parts = line_parts(line)
    if parts[0] not in TAKERS:
        return False
    take = TAKERS[parts[0]]
    return take(reader, parts, line)
