"""Lines and rules made ready for machines, which carry out each of them again and again."""

from sameroom.cells import names_of
from sameroom.expressions import steps_of


def ready_line(line, cells, answers):
    """A line made ready: its word, the steps of its expression, its cell by index, a bound, and its targets.

    Where the value of the expression is not one of 0 to the bound minus 1, the line ends with a fault.
    """
    if line[0] == "set":
        at = names_of(cells).index(line[1])
        return ("set", steps_of(line[2]), at, cells[at][1], (line[3],))
    if line[0] == "pick":
        return ("pick", steps_of(line[1]), None, len(line[2]), line[2])
    if line[0] == "stop":
        return ("stop", steps_of(line[1]), None, answers, ())
    # Nothing is below the bound 0: this line always ends with a fault.
    return ("fail", steps_of(0), None, 0, ())


def ready_rule(rule, cells):
    """A rule made ready: guard, its cell by index, that cell's size, old, new, after, shows; expressions as steps."""
    _, guard, cell, old, new, after, shows = rule
    at = None if cell is None else names_of(cells).index(cell)
    size = 0 if cell is None else cells[at][1]
    return (steps_of(guard), at, size, steps_of(old), steps_of(new), after, shows)
