"""Texts of lines: remarks and empty lines left out, and the parts of the others; lines that several texts have."""

from sameroom.errors import BadText
from sameroom.expressiontexts import read_expression

INDENT = "  "


def told_lines(text):
    """The pairs (number, line) of the lines that are not empty, without remarks and outer spaces."""
    found = []
    for at, line in enumerate(text.split("\n")):
        told = line.partition(";")[0].strip(" ")
        if told != "":
            found.append((at + 1, told))
    return found


def line_total(text):
    """How many lines a text has, empty ones included."""
    return text.count("\n") + 1


def line_parts(line):
    """The parts of a line, between its spaces."""
    return [part for part in line.split(" ") if part != ""]


def behind_parts(line, many):
    """What stands in a line behind so many of its parts."""
    rest = line
    for _ in range(many):
        rest = rest.partition(" ")[2].lstrip(" ")
    return rest


def told_expression(text):
    """The expression that a text says, or None if the text is not right."""
    try:
        return read_expression(text)
    except BadText:
        return None


def indented(lines):
    """The same lines, two spaces further in."""
    return [INDENT + line for line in lines]


def cell_lines(given, cells):
    """The lines of given cells and of cells."""
    lines = [f"given {name} {size}" for name, size in given]
    return lines + [f"cell {name} {size} {start}" for name, size, start in cells]
