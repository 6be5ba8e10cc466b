"""The rules of walkers, and where their places lie."""

from sameroom.expressions import replaced

BEGIN = 0
HOME = 1
FIRST_PLACE = 2


def first_places(code):
    """The place of finger 0 of each line, and behind them the number of places for all fingers, begin and home."""
    firsts = [FIRST_PLACE]
    for line in range(len(code.lines)):
        firsts.append(firsts[-1] + len(code.fingers_of(line)))
    return firsts


def out_of_range(expression, size):
    """The expression that says that the value of another one is not one of 0 to size - 1."""
    return ("or", ("<", expression, 0), (">=", expression, size))


def all_have(pairs):
    """The expression that says of pairs of a cell and a value that each cell has its value; 1 without pairs."""
    joined = 1
    for at, (name, value) in enumerate(pairs):
        says = ("=", name, value)
        joined = says if at == 0 else ("and", joined, says)
    return joined


def plain_rule(place, guard, after):
    """A rule without change."""
    return (place, guard, None, 0, 0, after, False)


class WalkerRules:
    """The rules of a walker as they are made, for one code and rotation."""

    def __init__(self, code, rotation):
        self.code = code
        self.rotation = rotation
        self.firsts = first_places(code)
        self.sizes = {cell[0]: cell[1] for cell in code.cells}
        self.at_start = all_have([(name, start) for name, _, start in code.cells])
        self.rules = [plain_rule(BEGIN, self.at_start, self.turned(code.entry, 1))]
        for line in range(len(code.lines)):
            self.add_line(line)

    def place(self, line, finger):
        """The place of a finger."""
        return self.firsts[line] + finger

    def turned(self, line, finger):
        """The place of the finger after this one."""
        return self.place(line, self.rotation.after(line, finger))

    def add_line(self, line):
        """Add the rules of the fingers of a line that stand in its row, in ascending order."""
        for finger in sorted(self.rotation.rows[line]):
            slot = self.code.fingers_of(line)[finger]
            if finger == 0:
                self.add_ahead(line)
            elif slot is None:
                self.add_entry(line)
            else:
                self.add_slot(line, finger, slot)

    def add_ahead(self, line):
        """Add the rules of finger 0: on to the next line, or, where the run ends, the outcome number as the answer."""
        row = self.code.lines[line]
        if row[0] == "set":
            self.add_set(line)
        elif row[0] == "pick":
            self.add_pick(line)
        elif row[0] == "stop":
            out = out_of_range(row[1], self.code.answers)
            self.add_end(line, ("not", out), ("+", 1, row[1]))
            self.add_end(line, out, self.fault(line))
        else:
            self.add_end(line, 1, self.fault(line))

    def fault(self, line):
        """The outcome number of a fault at a line."""
        return 1 + self.code.answers + line

    def add_end(self, line, guard, number):
        """Add a rule that puts an outcome number into the answer cell."""
        self.rules.append((self.place(line, 0), guard, "answer", 0, number, self.turned(line, 0), False))

    def finger_in_row(self, line, slot):
        """The finger of a slot of a line, or None if it does not stand in the row."""
        finger = self.code.finger_of(slot)
        return finger if finger in self.rotation.rows[line] else None

    def add_set(self, line):
        """Add the rules of finger 0 of a `set` line."""
        _, cell, expression, onward = self.code.lines[line]
        size = self.sizes[cell]
        for old in range(size):
            finger = self.finger_in_row(onward, (line, 0, old))
            if finger is not None:
                new = replaced(expression, cell, old)
                self.rules.append((self.place(line, 0), 1, cell, old, new, self.turned(onward, finger), False))
        self.add_end(line, out_of_range(expression, size), self.fault(line))

    def add_pick(self, line):
        """Add the rules of finger 0 of a `pick` line."""
        _, expression, targets = self.code.lines[line]
        for arm, target in enumerate(targets):
            finger = self.finger_in_row(target, (line, arm, 0))
            if finger is not None:
                guard = ("=", expression, arm)
                self.rules.append(plain_rule(self.place(line, 0), guard, self.turned(target, finger)))
        self.add_end(line, out_of_range(expression, len(targets)), self.fault(line))

    def add_entry(self, line):
        """Add the rules of the entry finger: home from the start state, otherwise past it."""
        place = self.place(line, 1)
        self.rules.append(plain_rule(place, self.at_start, HOME))
        self.rules.append(plain_rule(place, ("not", self.at_start), self.turned(line, 1)))

    def add_slot(self, line, finger, slot):
        """Add the rules of the finger of a slot: back to the source, or past a finger that is blind."""
        source, arm, old = slot
        row = self.code.lines[source]
        place = self.place(line, finger)
        back = self.turned(source, 0)
        if row[0] == "set":
            cell = row[1]
            new = replaced(row[2], cell, old)
            self.rules.append((place, 1, cell, new, old, back, False))
            blind = ("!=", cell, new)
        else:
            self.rules.append(plain_rule(place, ("=", row[1], arm), back))
            blind = ("!=", row[1], arm)
        self.rules.append(plain_rule(place, blind, self.turned(line, finger)))
