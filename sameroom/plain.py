"""The plain machine: runs a code line by line, forgetting what it overwrites."""

from sameroom.cells import all_values


def all_states(code):
    """All states of a code, ascending."""
    for line in range(len(code.lines)):
        for values in all_values(code.cells):
            yield (line, values)


def start_state(code):
    """The state at which the code begins."""
    return (code.entry, tuple([cell[2] for cell in code.cells]))


def next_state(code, given, state):
    """The state after one line, or None if the run ends here."""
    return code.line_result(given, state)[0]


def end_number(code, given, state):
    """The outcome number of the end of the run, or None if it does not end here."""
    return code.line_result(given, state)[2]


def describe_outcome(code, number):
    """An outcome number in words."""
    if number == 0:
        return ("never",)
    if number <= code.answers:
        return ("answer", number - 1)
    return ("fault", number - 1 - code.answers)


def _met_states(code, given, state):
    """The run from a state: a dict of the states with their indexes, and the state that is met again or None."""
    met = {}
    while state is not None and state not in met:
        met[state] = len(met)
        state = next_state(code, given, state)
    return (met, state)


def run_states(code, given, state):
    """All states that a run meets from this one on, each once, in their order."""
    met, _ = _met_states(code, given, state)
    return tuple(met)


def outcome(code, given, state=None):
    """The outcome number of the run from a state, or from the start state."""
    met, again = _met_states(code, given, start_state(code) if state is None else state)
    if again is not None:
        return 0
    return end_number(code, given, list(met)[-1])


def cycle_from(code, given, state):
    """The states that a run meets again and again, or () if it ends."""
    met, again = _met_states(code, given, state)
    if again is None:
        return ()
    return tuple(list(met)[met[again]:])


def path_to(code, given, state):
    """The states of the run from the start state to this one, or () if it never meets it."""
    met, _ = _met_states(code, given, start_state(code))
    if state not in met:
        return ()
    return tuple(list(met)[:met[state] + 1])
