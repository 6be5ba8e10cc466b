"""Crossing the edges at which the fingers of a state point."""

from sameroom.cells import names_of


def _origin(code, state, slot):
    """The only state from which this slot may lead to this state."""
    source, _, old = slot
    line = code.lines[source]
    values = state[1]
    if line[0] == "pick":
        return (source, values)
    at = names_of(code.cells).index(line[1])
    return (source, values[:at] + (old,) + values[at + 1:])


def across(code, given, state, finger):
    """The pointer at the other side of the edge at which a finger points; the same one if it is blind."""
    slot = code.fingers_of(state[0])[finger]
    if finger == 0:
        after, by, _ = code.line_result(given, state)
        return (state, 0) if after is None else (after, code.finger_of(by))
    if slot is None:
        return (state, finger)
    origin = _origin(code, state, slot)
    after, by, _ = code.line_result(given, origin)
    return (origin, 0) if (after, by) == (state, slot) else (state, finger)


def is_blind(code, given, state, finger):
    """Whether a finger of a state points at no edge."""
    return across(code, given, state, finger) == (state, finger)


def predecessors(code, given, state):
    """All states whose next state is this one, ascending."""
    fingers = range(1, len(code.fingers_of(state[0])))
    pointers = [across(code, given, state, finger) for finger in fingers]
    return tuple([pointer[0] for pointer in pointers if pointer[1] == 0])
