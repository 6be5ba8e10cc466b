"""Slots: the ways in which a line may be reached, and the fingers that point at them."""


def slots(code, line):
    """The slots of a line, ascending."""
    return tuple([slot for slot in code.fingers_of(line) if slot is not None])


def finger_count(code, line):
    """The number of fingers of a line."""
    return len(code.fingers_of(line))


def slot_finger(code, line, slot):
    """The finger of a slot of a line."""
    return code.fingers_of(line).index(slot)


def finger_slot(code, line, finger):
    """The slot of a finger of a line, or None for finger 0 and the entry finger."""
    return code.fingers_of(line)[finger]
