"""The plain machine: runs a code line by line, forgetting what it overwrites."""

from sameroom.expressions import value_of


def _all_values(cells):
    """The list of all tuples of values that cells can have, ascending."""
    rows = [()]
    for cell in cells:
        rows = [row + (value,) for row in rows for value in range(cell[1])]
    return rows


def all_states(code):
    """All states of a code, ascending."""
    for line in range(len(code.lines)):
        for values in _all_values(code.cells):
            yield (line, values)


def start_state(code):
    """The state at which the code begins."""
    return (code.entry, tuple([cell[2] for cell in code.cells]))


def _known_values(code, given, values):
    """The dict of the values of all cells of a code."""
    known = {}
    for cell, value in zip(code.given, given):
        known[cell[0]] = value
    for cell, value in zip(code.cells, values):
        known[cell[0]] = value
    return known


def _set_result(code, state, row, value):
    """What comes after a `set` line that gives this value, as `_line_result` tells it."""
    line, values = state
    for at, cell in enumerate(code.cells):
        if cell[0] == row[1] and 0 <= value < cell[1]:
            return ((row[3], values[:at] + (value,) + values[at + 1:]), None)
    return (None, 1 + code.answers + line)


def _line_result(code, given, state):
    """The pair of the next state and the outcome number: one of them is None."""
    line, values = state
    row = code.lines[line]
    fault = 1 + code.answers + line
    if row[0] == "fail":
        return (None, fault)
    expression = row[2] if row[0] == "set" else row[1]
    value = value_of(expression, _known_values(code, given, values), code.helpers)
    if row[0] == "set":
        return _set_result(code, state, row, value)
    if row[0] == "pick":
        if 0 <= value < len(row[2]):
            return ((row[2][value], values), None)
        return (None, fault)
    return (None, 1 + value if 0 <= value < code.answers else fault)


def next_state(code, given, state):
    """The state after one line, or None if the run ends here."""
    return _line_result(code, given, state)[0]


def end_number(code, given, state):
    """The outcome number of the end of the run, or None if it does not end here."""
    return _line_result(code, given, state)[1]


def describe_outcome(code, number):
    """An outcome number in words."""
    if number == 0:
        return ("never",)
    if number <= code.answers:
        return ("answer", number - 1)
    return ("fault", number - 1 - code.answers)


def _met_states(code, given, state):
    """The run from a state: a dict of the states with their indexes, and the state that is met again or None."""
    met = {}
    while state is not None and state not in met:
        met[state] = len(met)
        state = next_state(code, given, state)
    return (met, state)


def run_states(code, given, state):
    """All states that a run meets from this one on, each once, in their order."""
    met, _ = _met_states(code, given, state)
    return tuple(met)


def outcome(code, given, state=None):
    """The outcome number of the run from a state, or from the start state."""
    met, again = _met_states(code, given, start_state(code) if state is None else state)
    if again is not None:
        return 0
    return end_number(code, given, list(met)[-1])


def cycle_from(code, given, state):
    """The states that a run meets again and again, or () if it ends."""
    met, again = _met_states(code, given, state)
    if again is None:
        return ()
    return tuple(list(met)[met[again]:])


def path_to(code, given, state):
    """The states of the run from the start state to this one, or () if it never meets it."""
    met, _ = _met_states(code, given, start_state(code))
    if state not in met:
        return ()
    return tuple(list(met)[:met[state] + 1])
