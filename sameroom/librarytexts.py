"""Libraries are written as texts, and read from texts."""

from sameroom.errors import BadLine
from sameroom.expressiontexts import write_expression
from sameroom.libraryreading import LibraryReader, take_line
from sameroom.programs import Library
from sameroom.textlines import cell_lines, indented, line_total, told_lines


def read_library(text):
    """The library that a text says; BadLine, or an error of Library, if it says none."""
    reader = LibraryReader()
    for number, line in told_lines(text):
        if not take_line(reader, line):
            raise BadLine(number)
    if not reader.may_end():
        raise BadLine(line_total(text) + 1)
    return Library(tuple(reader.finished))


def _if_lines(statement):
    lines = [f"if {write_expression(statement[1])}", *_body_lines(statement[2])]
    if statement[3] != ():
        lines = [*lines, "else", *_body_lines(statement[3])]
    return [*lines, "end"]


def _pick_lines(statement):
    lines = [f"pick {write_expression(statement[1])}"]
    for body in statement[2]:
        lines = [*lines, "case", *_body_lines(body)]
    return [*lines, "end"]


def _statement_lines(statement):
    word = statement[0]
    if word == "set":
        return [f"set {statement[1]} to {write_expression(statement[2])}"]
    if word == "if":
        return _if_lines(statement)
    if word == "while":
        return [f"while {write_expression(statement[1])}", *_body_lines(statement[2]), "end"]
    if word == "pick":
        return _pick_lines(statement)
    if word == "do":
        return [f"do {statement[1]}"]
    if word == "stop":
        return [f"stop {write_expression(statement[1])}"]
    return ["fail"]


def _body_lines(body):
    """The lines of a body, two spaces further in than the line that opens it."""
    lines = []
    for statement in body:
        lines.extend(_statement_lines(statement))
    return indented(lines)


def _program_lines(program):
    lines = [f"program {program.name}", *cell_lines(program.given, program.cells), f"answers {program.answers}"]
    for name, body in program.procedures:
        lines.extend([f"procedure {name}", *_body_lines(body), "end"])
    return [*lines, "begin", *_body_lines(program.body), "end"]


def write_library(library):
    """The written form of a library."""
    texts = ["\n".join(_program_lines(program)) for program in library.programs]
    return "\n\n".join(texts)
