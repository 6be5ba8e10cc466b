"""Books are written as texts, and read from texts."""

from sameroom.bookreading import BookReader, take_book_line
from sameroom.errors import BadLine
from sameroom.expressiontexts import write_expression
from sameroom.textlines import cell_lines, indented, line_total, told_lines


def read_book(text):
    """The book that a text says; BadLine, or an error of Book, if it says none."""
    reader = BookReader()
    for number, line in told_lines(text):
        if not take_book_line(reader, line):
            raise BadLine(number)
    if reader.finished is None:
        raise BadLine(line_total(text) + 1)
    return reader.finished.book()


def _rule_line(rule):
    place, guard, cell, old, new, after, shows = rule
    arrow = "=>" if shows else "->"
    line = f"{place} {arrow} {after} when {write_expression(guard)}"
    if cell is None:
        return line
    return f"{line} set {cell} from {write_expression(old)} to {write_expression(new)}"


def _book_lines(book):
    lines = ["book", *cell_lines(book.given, book.cells), f"places {book.places} {book.first} {book.last}"]
    for name, helper in book.helpers:
        lines.extend([f"helper {name}", *indented(_book_lines(helper))])
    lines.extend([_rule_line(rule) for rule in book.rules])
    return [*lines, "end"]


def write_book(book):
    """The written form of a book."""
    return "\n".join(_book_lines(book))
