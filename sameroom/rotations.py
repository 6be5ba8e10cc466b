"""Rotations: the order in which the fingers of each line follow one another."""

from sameroom.errors import BadRotation
from sameroom.turning import finger_after, finger_before


def _is_unused(code, slot):
    return slot is not None and slot not in code.used_slots()


def unused_fingers(code):
    """All pairs (line, finger) of the fingers of slots that are blind everywhere, ascending."""
    return tuple([
        (line, finger) for line in range(len(code.lines)) for finger, slot in enumerate(code.fingers_of(line))
        if _is_unused(code, slot)
    ])


def _row_fits(code, line, row):
    """Whether a row has only fingers of its line, none of them twice, and all that it must have."""
    slots = code.fingers_of(line)
    present = set(row)
    if len(present) < len(row):
        return False
    for finger in row:
        if not 0 <= finger < len(slots):
            return False
    for finger, slot in enumerate(slots):
        if finger not in present and not _is_unused(code, slot):
            return False
    return True


def _plain_rows(code):
    return tuple([tuple(range(len(code.fingers_of(line)))) for line in range(len(code.lines))])


class Rotation:
    """The fingers of each line in the order in which they follow one another."""

    def __init__(self, code, rows=None):
        self.rows = _plain_rows(code) if rows is None else rows
        for line, row in enumerate(self.rows):
            if not _row_fits(code, line, row):
                raise BadRotation(line)

    def after(self, line, finger):
        """The finger after this one in the row of the line."""
        return finger_after(self.rows[line], finger)

    def before(self, line, finger):
        """The finger before this one in the row of the line."""
        return finger_before(self.rows[line], finger)

    def __eq__(self, other):
        if not isinstance(other, Rotation):
            return False
        return self.rows == other.rows


def rotation_or_plain(code, rotation):
    """A rotation of the code, where None means the plain one."""
    return code.plain_rotation() if rotation is None else rotation


def lean_rotation(code):
    """The rotation with all fingers but the unused ones, in ascending order."""
    return Rotation(code, tuple([
        tuple([finger for finger, slot in enumerate(code.fingers_of(line)) if not _is_unused(code, slot)])
        for line in range(len(code.lines))
    ]))
