"""The rules of origins books."""

from sameroom.expressions import replaced
from sameroom.rulemaking import all_have, out_of_range, plain_rule
from sameroom.ways import BEGIN, HOME, Ways


class OriginRules:
    """The rules of an origins book as they are made, for one code and one of its states, the target.

    The walk goes round the target with the edge ahead of it cut: where the plain tour would cross this edge, a rule
    leads home instead, or, from the other side, sets the mark and goes past it.
    """

    def __init__(self, code, state):
        self.code = code
        self.ways = Ways(code, code.plain_rotation())
        self.target_line, values = state
        self.target_values = {cell[0]: value for cell, value in zip(code.cells, values)}
        self.here = self.all_but(None)
        self.rules = [plain_rule(BEGIN, self.here, self.ways.turned(self.target_line, 0))]
        for line, finger, slot in self.ways.fingers_in_rows():
            if finger == 0:
                self.add_ahead(line)
            elif slot is None:
                self.add_past(line, 1, 1)
            elif code.lines[slot[0]][0] == "set":
                self.add_set_slot(line, finger, slot)
            else:
                self.add_pick_slot(line, finger, slot)

    def all_but(self, cell):
        """The expression that says that all work cells have their values at the target, but for this cell."""
        return all_have([(name, value) for name, value in self.target_values.items() if name != cell])

    def elsewhere(self, line, guard):
        """A guard for a line, which at the target itself does not hold."""
        return ("and", guard, ("not", self.here)) if line == self.target_line else guard

    def cuts(self, line, cell, old):
        """Whether a `set` line overwrites this value at the target."""
        return line == self.target_line and self.target_values[cell] == old

    def add_past(self, line, finger, guard):
        """Add a rule that leads past a finger that points at no edge."""
        self.rules.append(plain_rule(self.ways.place(line, finger), guard, self.ways.turned(line, finger)))

    def add_ahead(self, line):
        """Add the rules of finger 0: on to the next line, or past it; home from the target."""
        if line == self.target_line:
            self.rules.append(plain_rule(self.ways.place(line, 0), self.here, HOME))
        row = self.code.lines[line]
        if row[0] == "set":
            self.add_set(line)
        elif row[0] == "pick":
            self.add_pick(line)
        else:
            self.add_past(line, 0, ("not", self.here) if line == self.target_line else 1)

    def add_set(self, line):
        """Add the rules of finger 0 of a `set` line."""
        _, cell, expression, _ = self.code.lines[line]
        for old, after in self.ways.ahead(line):
            guard = ("not", self.all_but(cell)) if self.cuts(line, cell, old) else 1
            new = replaced(expression, cell, old)
            self.rules.append((self.ways.place(line, 0), guard, cell, old, new, after, False))
        self.add_past(line, 0, self.elsewhere(line, out_of_range(expression, self.ways.sizes[cell])))

    def add_pick(self, line):
        """Add the rules of finger 0 of a `pick` line."""
        _, expression, targets = self.code.lines[line]
        for arm, after in self.ways.ahead(line):
            guard = self.elsewhere(line, ("=", expression, arm))
            self.rules.append(plain_rule(self.ways.place(line, 0), guard, after))
        self.add_past(line, 0, self.elsewhere(line, out_of_range(expression, len(targets))))

    def add_mark(self, line, finger, guard):
        """Add the rule of a finger that points at the edge ahead of the target: the target comes back."""
        self.rules.append((self.ways.place(line, finger), guard, "mark", 0, 1, self.ways.turned(line, finger), False))

    def add_set_slot(self, line, finger, slot):
        """Add the rules of the finger of a slot of a `set` line: back to an origin, which it shows, or past it."""
        source, _, old = slot
        _, cell, expression, _ = self.code.lines[source]
        new = replaced(expression, cell, old)
        rest = self.all_but(cell)
        cut = self.cuts(source, cell, old)
        guard = ("not", rest) if cut else 1
        self.rules.append((self.ways.place(line, finger), guard, cell, new, old, self.ways.turned(source, 0), True))
        if cut:
            self.add_mark(line, finger, ("and", rest, ("=", cell, new)))
        self.add_past(line, finger, ("!=", cell, new))

    def add_pick_slot(self, line, finger, slot):
        """Add the rules of the finger of a slot of a `pick` line: back to an origin, which it shows, or past it."""
        source, arm, _ = slot
        expression = self.code.lines[source][1]
        picks = ("=", expression, arm)
        guard = self.elsewhere(source, picks)
        self.rules.append((self.ways.place(line, finger), guard, None, 0, 0, self.ways.turned(source, 0), True))
        if source == self.target_line:
            self.add_mark(line, finger, ("and", picks, self.here))
        self.add_past(line, finger, ("!=", expression, arm))
