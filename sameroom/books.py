"""Books: machines made of rules that can be undone."""

from sameroom.booklimits import frame_fits, wrong_rule
from sameroom.cells import in_range, names_of
from sameroom.errors import BadBook
from sameroom.expressions import worked_out
from sameroom.ready import ready_rule
from sameroom.running import final_state


def inverse_rule(rule):
    """The rule that leads back."""
    place, guard, cell, old, new, after, shows = rule
    return (after, guard, cell, new, old, place, shows)


class Book:
    """A machine made of rules, each of which changes at most one cell."""

    def __init__(self, given, cells, places, rules, helpers=(), first=0, last=1):
        if not frame_fits(given, cells, places, rules, helpers, first, last):
            raise BadBook(-1)
        wrong = wrong_rule(given, cells, places, rules, helpers)
        if wrong is not None:
            raise BadBook(wrong)
        self.given = given
        self.cells = cells
        self.places = places
        self.rules = rules
        self.helpers = helpers
        self.first = first
        self.last = last
        # What every step of a run asks for, worked out once.
        self._names = tuple(names_of(given + cells))
        self._named_helpers = dict(helpers)
        # Rules made ready by their places, and answers by givens, both kept when they are first asked for.
        self._ready_rules = {}
        self._answers = {}

    @property
    def start(self):
        """The state at which a run of the book begins."""
        return (self.first, tuple([cell[2] for cell in self.cells]))

    @property
    def room(self):
        """The number of cells that a run needs, those of the helpers that are asked included."""
        return len(self.cells) + max([0] + [helper.room for _, helper in self.helpers])

    def call_value(self, args):
        """The value of a call: that of the last cell where the run ends, 0 if it never does, -1 if out of range."""
        if not in_range(self.given, args):
            return -1
        if args not in self._answers:
            final = final_state(self, args)
            self._answers[args] = 0 if final is None else final[1][-1]
        return self._answers[args]

    def known_values(self, given, values):
        """The dict of the values of all given cells and cells."""
        return dict(zip(self._names, given + values))

    def result_of(self, ready, known, values):
        """The state to which a rule of the place leads that was made ready, or None if it does not apply."""
        guard, at, size, old, new, after, _ = ready
        if worked_out(guard, known, self._named_helpers) == 0:
            return None
        if at is None:
            return (after, values)
        if worked_out(old, known, self._named_helpers) != values[at]:
            return None
        worth = worked_out(new, known, self._named_helpers)
        if not 0 <= worth < size:
            return None
        return (after, values[:at] + (worth,) + values[at + 1:])

    def ready_rules(self, place):
        """The rules of a place, made ready, in their order."""
        if place not in self._ready_rules:
            self._ready_rules[place] = [ready_rule(rule, self.cells) for rule in self.rules if rule[0] == place]
        return self._ready_rules[place]

    def carried_out(self, given, state):
        """The result of the first rule that applies at a state, and whether that rule shows; (None, False) for none."""
        place, values = state
        known = self.known_values(given, values)
        for ready in self.ready_rules(place):
            result = self.result_of(ready, known, values)
            if result is not None:
                return (result, ready[-1])
        return (None, False)

    def __invert__(self):
        rules = tuple([inverse_rule(rule) for rule in self.rules])
        return Book(self.given, self.cells, self.places, rules, self.helpers, self.last, self.first)

    def __len__(self):
        return len(self.rules)

    def __iter__(self):
        return iter(self.rules)

    def __eq__(self, other):
        if not isinstance(other, Book):
            return False
        return (
            self.given == other.given and self.cells == other.cells and self.places == other.places
            and self.rules == other.rules and self.helpers == other.helpers
            and self.first == other.first and self.last == other.last
        )
