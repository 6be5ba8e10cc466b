"""The debugger, which walks along the tours of a code, ahead and back, and remembers nothing but where it is."""

from sameroom.cells import names_of
from sameroom.errors import BadSnapshot
from sameroom.expressions import steps_of, worked_out
from sameroom.plain import end_number, start_state
from sameroom.rotations import rotation_or_plain
from sameroom.tours import step_back, step_on, tour_from

HOME_FINGER = 1
# In front of the values a snapshot has the line and the finger.
FIRST_VALUE = 2


def _number_fits(code, rotation, snapshot, at):
    """Whether a number of a snapshot is right; those before it are."""
    number = snapshot[at]
    if at == 0:
        return 0 <= number < len(code.lines)
    if at == 1:
        return number in rotation.rows[snapshot[0]]
    if at < FIRST_VALUE + len(code.cells):
        return 0 <= number < code.cells[at - FIRST_VALUE][1]
    return False


def _wrong_index(code, rotation, snapshot):
    """The first index at which a snapshot is not right, or None."""
    for at in range(len(snapshot)):
        if not _number_fits(code, rotation, snapshot, at):
            return at
    return len(snapshot) if len(snapshot) < FIRST_VALUE + len(code.cells) else None


class Debugger:
    """Stands at a pointer of a code, and can always be led on or back."""

    def __init__(self, code, given, *, rotation=None):
        self._code = code
        self._given = given
        self._rotation = rotation_or_plain(code, rotation)
        self._pointer = self._home()

    @property
    def state(self):
        """The state at which the debugger stands."""
        return self._pointer[0]

    @property
    def finger(self):
        """The finger at which the debugger stands."""
        return self._pointer[1]

    def _home(self):
        """The pointer at which each debugger of the code begins."""
        return (start_state(self._code), HOME_FINGER)

    def forward(self, steps=1):
        """Move so many times on."""
        for _ in range(steps):
            self._pointer = step_on(self._code, self._given, self._pointer, self._rotation)

    def backward(self, steps=1):
        """Move so many times back."""
        for _ in range(steps):
            self._pointer = step_back(self._code, self._given, self._pointer, self._rotation)

    def go_to(self, state, finger=0):
        """Go to a pointer."""
        self._pointer = (state, finger)

    def go_home(self):
        """Go to the pointer at which the debugger began."""
        self._pointer = self._home()

    def _holds(self, condition_steps):
        """Whether a condition, told by its steps, holds here."""
        (line, values), finger = self._pointer
        names = names_of(self._code.given + self._code.cells) + ["line", "finger"]
        known = dict(zip(names, (*self._given, *values, line, finger)))
        return worked_out(condition_steps, known, dict(self._code.helpers)) != 0

    def _sought(self, condition, step):
        """Move by steps until a condition holds; the number of moves, or 0 if it holds nowhere on the tour."""
        begin = self._pointer
        condition_steps = steps_of(condition)
        moves = 0
        while moves == 0 or self._pointer != begin:
            self._pointer = step(self._code, self._given, self._pointer, self._rotation)
            moves = moves + 1
            if self._holds(condition_steps):
                return moves
        return 0

    def seek(self, condition):
        """Move on until a condition holds; the number of moves, or 0 if it holds nowhere on the tour."""
        return self._sought(condition, step_on)

    def seek_back(self, condition):
        """Move back until a condition holds; the number of moves, or 0 if it holds nowhere on the tour."""
        return self._sought(condition, step_back)

    def age(self):
        """The least number of moves that lead on from home to this pointer, or None."""
        home = self._home()
        pointer = self._pointer
        moves = 0
        while pointer != home:
            pointer = step_back(self._code, self._given, pointer, self._rotation)
            moves = moves + 1
            if pointer == self._pointer:
                return None
        return moves

    def outcome(self):
        """The outcome number of the run from this state, as the tour tells it."""
        begin, turned = self._pointer
        for state, finger in tour_from(self._code, self._given, begin, turned, rotation=self._rotation):
            if finger == 0:
                number = end_number(self._code, self._given, state)
                if number is not None:
                    return number
        return 0

    def snapshot(self):
        """The line, the finger and the values, as one tuple."""
        (line, values), finger = self._pointer
        return (line, finger, *values)

    @classmethod
    def from_snapshot(cls, code, given, snapshot, *, rotation=None):
        """A new debugger at the pointer that a snapshot tells."""
        wrong = _wrong_index(code, rotation_or_plain(code, rotation), snapshot)
        if wrong is not None:
            raise BadSnapshot(wrong)
        made = cls(code, given, rotation=rotation)
        made.go_to((snapshot[0], snapshot[FIRST_VALUE:]), snapshot[1])
        return made
