"""Reads the lines of a book text, one after the other."""

from sameroom.books import Book
from sameroom.expressions import OWN_NAMES, is_name
from sameroom.expressiontokens import is_number
from sameroom.textlines import line_parts, told_expression

MOST_DIGITS = 4

# Where a book stands: the line that came last tells which ones may follow.
AT_GIVEN = 0
AT_CELLS = 1
AT_HELPERS = 2
BEHIND_HELPER_LINE = 3
AT_RULES = 4


class BookDraft:
    """What has been read so far of one book."""

    def __init__(self):
        self.place = AT_GIVEN
        self.given = []
        self.cells = []
        self.numbers = ()
        # Pairs of a name and a draft; for the last one the draft comes behind the name.
        self.helpers = []
        self.helper_name = ""
        self.rules = []

    def book(self):
        """The book, or an error of Book; the helpers come first, in the order of their ends."""
        helpers = tuple([(name, draft.book()) for name, draft in self.helpers])
        places, first, last = self.numbers
        return Book(tuple(self.given), tuple(self.cells), places, tuple(self.rules), helpers, first, last)


class BookReader:
    """What has been read so far of a book text."""

    def __init__(self):
        # The drafts whose `end` has not come yet, each one but the first a helper of the one before.
        self.drafts = []
        self.finished = None

    def stands_at(self, *places):
        """Whether the innermost book stands at one of these places."""
        return self.drafts != [] and self.drafts[-1].place in places


# Each of the following takes one kind of line, and returns False where that line is not right or cannot stand.


def _are_numbers(parts):
    for part in parts:
        if not is_number(part, MOST_DIGITS):
            return False
    return True


def _is_cell_name(text):
    return is_name(text) or text in OWN_NAMES


def _take_book(reader, parts):
    if len(parts) != 1:
        return False
    draft = BookDraft()
    if reader.stands_at(BEHIND_HELPER_LINE):
        around = reader.drafts[-1]
        around.helpers.append((around.helper_name, draft))
        around.place = AT_HELPERS
    elif reader.drafts or reader.finished is not None:
        return False
    reader.drafts.append(draft)
    return True


def _take_given(reader, parts):
    if not reader.stands_at(AT_GIVEN) or len(parts) != 3 or not is_name(parts[1]) or not _are_numbers(parts[2:]):
        return False
    reader.drafts[-1].given.append((parts[1], int(parts[2])))
    return True


def _take_cell(reader, parts):
    if not reader.stands_at(AT_GIVEN, AT_CELLS) or len(parts) != 4:
        return False
    if not _is_cell_name(parts[1]) or not _are_numbers(parts[2:]):
        return False
    draft = reader.drafts[-1]
    draft.cells.append((parts[1], int(parts[2]), int(parts[3])))
    draft.place = AT_CELLS
    return True


def _take_places(reader, parts):
    if not reader.stands_at(AT_GIVEN, AT_CELLS) or len(parts) != 4 or not _are_numbers(parts[1:]):
        return False
    draft = reader.drafts[-1]
    draft.numbers = (int(parts[1]), int(parts[2]), int(parts[3]))
    draft.place = AT_HELPERS
    return True


def _take_helper(reader, parts):
    if not reader.stands_at(AT_HELPERS) or len(parts) != 2 or not is_name(parts[1]):
        return False
    draft = reader.drafts[-1]
    draft.helper_name = parts[1]
    draft.place = BEHIND_HELPER_LINE
    return True


def _take_end(reader, parts):
    if not reader.stands_at(AT_HELPERS, AT_RULES) or len(parts) != 1:
        return False
    draft = reader.drafts.pop()
    if not reader.drafts:
        reader.finished = draft
    return True


def _told_change(parts):
    """The cell, the old and the new expression that the parts of a rule tell from `set` on; None if not right."""
    if len(parts) < 3 or not _is_cell_name(parts[1]) or parts[2] != "from" or "to" not in parts:
        return None
    at = parts.index("to")
    old = told_expression(" ".join(parts[3:at]))
    new = told_expression(" ".join(parts[at + 1:]))
    if old is None or new is None:
        return None
    return (parts[1], old, new)


def _told_rule(parts):
    """The rule that the parts of a line tell, or None if they tell none."""
    if len(parts) < 4 or parts[1] not in ("->", "=>") or parts[3] != "when" or not _are_numbers([parts[0], parts[2]]):
        return None
    # No expression has the word `set`, so the guard ends where it comes first.
    at = parts.index("set") if "set" in parts else len(parts)
    guard = told_expression(" ".join(parts[4:at]))
    change = (None, 0, 0) if at == len(parts) else _told_change(parts[at:])
    if guard is None or change is None:
        return None
    cell, old, new = change
    return (int(parts[0]), guard, cell, old, new, int(parts[2]), parts[1] == "=>")


def _take_rule(reader, parts):
    rule = _told_rule(parts)
    if not reader.stands_at(AT_HELPERS, AT_RULES) or rule is None:
        return False
    draft = reader.drafts[-1]
    draft.rules.append(rule)
    draft.place = AT_RULES
    return True


TAKERS = {
    "book": _take_book, "given": _take_given, "cell": _take_cell, "places": _take_places, "helper": _take_helper,
    "end": _take_end,
}


def take_book_line(reader, line):
    """Takes the next line that is not empty; False if it is not right or cannot stand here."""
    parts = line_parts(line)
    take = TAKERS.get(parts[0], _take_rule)
    return take(reader, parts)
