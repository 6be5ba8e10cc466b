"""Turning from one finger of a row to the next one or back, round and round."""


def finger_after(row, finger):
    """The finger after this one; the last one is followed by the first one."""
    return row[(row.index(finger) + 1) % len(row)]


def finger_before(row, finger):
    """The finger before this one."""
    return row[row.index(finger) - 1]
