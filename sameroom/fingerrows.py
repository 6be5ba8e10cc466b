"""The fingers of the lines of a code, told for all lines at once."""


def _slots_by_target(lines, cells):
    """The slots of each line, ascending, as a list of lists."""
    sizes = {cell[0]: cell[1] for cell in cells}
    rows = [[] for _ in lines]
    for source, line in enumerate(lines):
        if line[0] == "set":
            rows[line[3]].extend([(source, 0, old) for old in range(sizes[line[1]])])
        elif line[0] == "pick":
            for arm, target in enumerate(line[2]):
                rows[target].append((source, arm, 0))
    return rows


def finger_rows(lines, cells, entry):
    """For each line the tuple of its fingers: for each finger its slot, or None for finger 0 and the entry finger."""
    rows = []
    for line, slots in enumerate(_slots_by_target(lines, cells)):
        rows.append((None, None, *slots) if line == entry else (None, *slots))
    return tuple(rows)


def fingers_by_slot(rows):
    """The dict of the fingers of all slots, each of which has one line."""
    fingers = {}
    for row in rows:
        for finger, slot in enumerate(row):
            if slot is not None:
                fingers[slot] = finger
    return fingers
