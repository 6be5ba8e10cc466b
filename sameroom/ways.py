"""The ways of books that walk along the fingers of a code: their places, and where they lead."""

BEGIN = 0
HOME = 1
FIRST_PLACE = 2


def first_places(code):
    """The place of finger 0 of each line, and behind them the number of places for all fingers, begin and home."""
    firsts = [FIRST_PLACE]
    for line in range(len(code.lines)):
        firsts.append(firsts[-1] + len(code.fingers_of(line)))
    return firsts


class Ways:
    """The places of the fingers of a code, and the places to which a rotation turns."""

    def __init__(self, code, rotation):
        self.code = code
        self.rotation = rotation
        self.firsts = first_places(code)
        self.sizes = {cell[0]: cell[1] for cell in code.cells}

    def place(self, line, finger):
        """The place of a finger."""
        return self.firsts[line] + finger

    def turned(self, line, finger):
        """The place of the finger after this one."""
        return self.place(line, self.rotation.after(line, finger))

    def fingers_in_rows(self):
        """The list of (line, finger, slot) of the fingers that stand in their rows, ascending; the slot may be None."""
        return [
            (line, finger, self.code.fingers_of(line)[finger])
            for line, row in enumerate(self.rotation.rows) for finger in sorted(row)
        ]

    def slots_ahead(self, line):
        """The slots by which a `set` or a `pick` line leads on, each with the line that has it."""
        row = self.code.lines[line]
        if row[0] == "set":
            return [((line, 0, old), row[3]) for old in range(self.sizes[row[1]])]
        return [((line, arm, 0), target) for arm, target in enumerate(row[2])]

    def ahead(self, line):
        """Where each old value of a `set` line, or each index of a `pick` line, leads: pairs of it and a place.

        Those whose slot does not stand in its row are left out.
        """
        found = []
        for number, (slot, target) in enumerate(self.slots_ahead(line)):
            finger = self.code.finger_of(slot)
            if finger in self.rotation.rows[target]:
                found.append((number, self.turned(target, finger)))
        return found
