"""The rules of walkers."""

from sameroom.expressions import replaced
from sameroom.rulemaking import all_have, out_of_range, plain_rule
from sameroom.ways import BEGIN, HOME, Ways


class WalkerRules:
    """The rules of a walker as they are made, for one code and rotation."""

    def __init__(self, code, rotation):
        self.code = code
        self.ways = Ways(code, rotation)
        self.at_start = all_have([(name, start) for name, _, start in code.cells])
        self.rules = [plain_rule(BEGIN, self.at_start, self.ways.turned(code.entry, 1))]
        for line, finger, slot in self.ways.fingers_in_rows():
            if finger == 0:
                self.add_ahead(line)
            elif slot is None:
                self.add_entry(line)
            else:
                self.add_slot(line, finger, slot)

    def add_ahead(self, line):
        """Add the rules of finger 0: on to the next line, or, where the run ends, the outcome number as the answer."""
        row = self.code.lines[line]
        if row[0] == "set":
            self.add_set(line)
        elif row[0] == "pick":
            self.add_pick(line)
        elif row[0] == "stop":
            out = out_of_range(row[1], self.code.answers)
            self.add_end(line, ("not", out), ("+", 1, row[1]))
            self.add_end(line, out, self.fault(line))
        else:
            self.add_end(line, 1, self.fault(line))

    def fault(self, line):
        """The outcome number of a fault at a line."""
        return 1 + self.code.answers + line

    def add_end(self, line, guard, number):
        """Add a rule that puts an outcome number into the answer cell."""
        self.rules.append((self.ways.place(line, 0), guard, "answer", 0, number, self.ways.turned(line, 0), False))

    def add_set(self, line):
        """Add the rules of finger 0 of a `set` line."""
        _, cell, expression, _ = self.code.lines[line]
        place = self.ways.place(line, 0)
        for old, after in self.ways.ahead(line):
            self.rules.append((place, 1, cell, old, replaced(expression, cell, old), after, False))
        self.add_end(line, out_of_range(expression, self.ways.sizes[cell]), self.fault(line))

    def add_pick(self, line):
        """Add the rules of finger 0 of a `pick` line."""
        _, expression, targets = self.code.lines[line]
        for arm, after in self.ways.ahead(line):
            self.rules.append(plain_rule(self.ways.place(line, 0), ("=", expression, arm), after))
        self.add_end(line, out_of_range(expression, len(targets)), self.fault(line))

    def add_entry(self, line):
        """Add the rules of the entry finger: home from the start state, otherwise past it."""
        place = self.ways.place(line, 1)
        self.rules.append(plain_rule(place, self.at_start, HOME))
        self.rules.append(plain_rule(place, ("not", self.at_start), self.ways.turned(line, 1)))

    def add_slot(self, line, finger, slot):
        """Add the rules of the finger of a slot: back to the source, or past a finger that is blind."""
        source, arm, old = slot
        row = self.code.lines[source]
        place = self.ways.place(line, finger)
        back = self.ways.turned(source, 0)
        if row[0] == "set":
            cell = row[1]
            new = replaced(row[2], cell, old)
            self.rules.append((place, 1, cell, new, old, back, False))
            blind = ("!=", cell, new)
        else:
            self.rules.append(plain_rule(place, ("=", row[1], arm), back))
            blind = ("!=", row[1], arm)
        self.rules.append(plain_rule(place, blind, self.ways.turned(line, finger)))
