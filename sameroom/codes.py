"""Codes: programs as tuples of lines."""

from sameroom.cells import all_values, in_range, names_of, value_count, with_starts
from sameroom.errors import BadCode
from sameroom.expressions import levels_in, worked_out
from sameroom.fingerrows import finger_rows, fingers_by_slot
from sameroom.limits import (
    MOST_CASES, MOST_LINES, are_names, argument_counts, calls_fit, fits, keeps_names, keeps_sizes,
)
from sameroom.plain import outcome
from sameroom.ready import ready_line
from sameroom.rotations import Rotation
from sameroom.statements import expressions_of

MOST_HELPERS = 4
MOST_NODES = 32
MOST_DEPTH = 9


def _targets_of(line):
    """The numbers of the lines at which the run may go on behind a line."""
    if line[0] == "set":
        return (line[3],)
    if line[0] == "pick":
        return line[2]
    return ()


def _frame_fits(given, cells, answers, lines, helpers, entry):
    """Whether all is right that is not in a line."""
    if not keeps_names(given, cells) or not keeps_sizes(given, cells, answers):
        return False
    if not 1 <= len(lines) <= MOST_LINES or not 0 <= entry < len(lines):
        return False
    return len(helpers) <= MOST_HELPERS and are_names(names_of(helpers))


def _line_fits(line, given, cells, helpers, line_total):
    if line[0] == "set" and line[1] not in names_of(cells):
        return False
    for target in _targets_of(line):
        if not 0 <= target < line_total:
            return False
    if line[0] == "pick" and not 1 <= len(line[2]) <= MOST_CASES:
        return False
    names = names_of(given) + names_of(cells)
    for expression in expressions_of(line):
        levels = levels_in(expression)
        if not fits(levels, MOST_NODES, MOST_DEPTH, names) or not calls_fit(levels, argument_counts(helpers)):
            return False
    return True


def _slots_met(code):
    """The slots by which some state is reached at some given, as a dict of True."""
    met = {}
    for given in all_values(code.given):
        for values in all_values(code.cells):
            for line in range(len(code.lines)):
                slot = code.line_result(given, (line, values))[1]
                if slot is not None:
                    met[slot] = True
    return met


class Code:
    """A program as a tuple of lines, with the codes whose endings its expressions ask."""

    def __init__(self, given, cells, answers, lines, helpers=(), entry=0):
        if not _frame_fits(given, cells, answers, lines, helpers, entry):
            raise BadCode(-1)
        for at, line in enumerate(lines):
            if not _line_fits(line, given, cells, helpers, len(lines)):
                raise BadCode(at)
        self.given = given
        self.cells = cells
        self.answers = answers
        self.lines = lines
        self.helpers = helpers
        self.entry = entry
        # What every step of a machine asks for, worked out once.
        self._names = tuple(names_of(given + cells))
        self._named_helpers = dict(helpers)
        self._ready_lines = tuple([ready_line(line, cells, answers) for line in lines])
        self._finger_rows = finger_rows(lines, cells, entry)
        self._slot_fingers = fingers_by_slot(self._finger_rows)
        # Kept answers. Without those by givens, codes that ask codes that ask codes would take ages.
        self._outcomes = {}
        self._used_slots = None
        self._plain_rotation = None
        self._walker = None

    @property
    def state_count(self):
        """The number of all states."""
        return len(self.lines) * value_count(self.cells)

    def call_value(self, args):
        """The value of a call: the outcome number of the run with this given, or -1 if it is out of range."""
        if not in_range(self.given, args):
            return -1
        if args not in self._outcomes:
            self._outcomes[args] = outcome(self, args)
        return self._outcomes[args]

    def line_result(self, given, state):
        """What the line of a state does: the next state, the slot by which it is reached, and the outcome number.

        Where the run ends, the first two are None; otherwise the last one is.
        """
        line, values = state
        word, steps, at, bound, targets = self._ready_lines[line]
        value = worked_out(steps, dict(zip(self._names, given + values)), self._named_helpers)
        if not 0 <= value < bound:
            return (None, None, 1 + self.answers + line)
        if word == "set":
            return ((targets[0], values[:at] + (value,) + values[at + 1:]), (line, 0, values[at]), None)
        if word == "pick":
            return ((targets[value], values), (line, value, 0), None)
        return (None, None, 1 + value)

    def fingers_of(self, line):
        """For each finger of a line its slot, or None."""
        return self._finger_rows[line]

    def finger_of(self, slot):
        """The finger of a slot, on the line to which the slot belongs."""
        return self._slot_fingers[slot]

    def used_slots(self):
        """The slots by which some state is reached at some given, as a dict of True."""
        if self._used_slots is None:
            self._used_slots = _slots_met(self)
        return self._used_slots

    def plain_rotation(self):
        """The rotation whose rows have all fingers in ascending order."""
        if self._plain_rotation is None:
            self._plain_rotation = Rotation(self)
        return self._plain_rotation

    def kept_walker(self):
        """The walker in the plain rotation that was kept, or None."""
        return self._walker

    def keep_walker(self, book):
        """Keep the walker in the plain rotation, and with it what that keeps: many questions ask it."""
        self._walker = book

    def __eq__(self, other):
        if not isinstance(other, Code):
            return False
        return (
            self.given == other.given and self.cells == other.cells and self.answers == other.answers
            and self.lines == other.lines and self.helpers == other.helpers and self.entry == other.entry
        )


def started(code, state):
    """The same code, but beginning at this state."""
    line, values = state
    return Code(code.given, with_starts(code.cells, values), code.answers, code.lines, code.helpers, line)
