"""Codes: programs as tuples of lines."""

from sameroom.errors import BadCode
from sameroom.limits import (
    MOST_CASES, MOST_LINES, are_names, argument_counts, calls_fit, fits, keeps_names, keeps_sizes, names_of,
    value_count,
)
from sameroom.plain import outcome

MOST_HELPERS = 4
MOST_NODES = 32
MOST_DEPTH = 9


def _targets_of(line):
    """The numbers of the lines at which the run may go on behind a line."""
    if line[0] == "set":
        return (line[3],)
    if line[0] == "pick":
        return line[2]
    return ()


def _expressions_of(line):
    if line[0] == "fail":
        return ()
    return (line[2],) if line[0] == "set" else (line[1],)


def _frame_fits(given, cells, answers, lines, helpers, entry):
    """Whether all is right that is not in a line."""
    if not keeps_names(given, cells) or not keeps_sizes(given, cells, answers):
        return False
    if not 1 <= len(lines) <= MOST_LINES or not 0 <= entry < len(lines):
        return False
    return len(helpers) <= MOST_HELPERS and are_names(names_of(helpers))


def _line_fits(line, given, cells, helpers, line_total):
    if line[0] == "set" and line[1] not in names_of(cells):
        return False
    for target in _targets_of(line):
        if not 0 <= target < line_total:
            return False
    if line[0] == "pick" and not 1 <= len(line[2]) <= MOST_CASES:
        return False
    names = names_of(given) + names_of(cells)
    for expression in _expressions_of(line):
        if not fits(expression, MOST_NODES, MOST_DEPTH, names):
            return False
        if not calls_fit(expression, argument_counts(helpers)):
            return False
    return True


class Code:
    """A program as a tuple of lines, with the codes whose endings its expressions ask."""

    def __init__(self, given, cells, answers, lines, helpers=(), entry=0):
        if not _frame_fits(given, cells, answers, lines, helpers, entry):
            raise BadCode(-1)
        for at, line in enumerate(lines):
            if not _line_fits(line, given, cells, helpers, len(lines)):
                raise BadCode(at)
        self.given = given
        self.cells = cells
        self.answers = answers
        self.lines = lines
        self.helpers = helpers
        self.entry = entry
        # Outcomes by givens: without them, codes that ask codes that ask codes would take ages.
        self._outcomes = {}

    @property
    def state_count(self):
        """The number of all states."""
        return len(self.lines) * value_count(self.cells)

    def call_value(self, args):
        """The value of a call: the outcome number of the run with this given, or -1 if it is out of range."""
        for cell, number in zip(self.given, args):
            if not 0 <= number < cell[1]:
                return -1
        if args not in self._outcomes:
            self._outcomes[args] = outcome(self, args)
        return self._outcomes[args]

    def __eq__(self, other):
        if not isinstance(other, Code):
            return False
        return (
            self.given == other.given and self.cells == other.cells and self.answers == other.answers
            and self.lines == other.lines and self.helpers == other.helpers and self.entry == other.entry
        )


def started(code, state):
    """The same code, but beginning at this state."""
    line, values = state
    cells = tuple([(cell[0], cell[1], value) for cell, value in zip(code.cells, values)])
    return Code(code.given, cells, code.answers, code.lines, code.helpers, line)
