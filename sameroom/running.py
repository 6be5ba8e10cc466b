"""Running books: single rules, steps and whole runs."""

from sameroom.ready import ready_rule


def rule_result(book, given, state, rule):
    """The state after a rule of a book, or None if it does not apply."""
    if rule[0] != state[0]:
        return None
    values = state[1]
    return book.result_of(ready_rule(rule, book.cells), book.known_values(given, values), values)


def rule_applies(book, given, state, rule):
    """Whether a rule of a book applies at a state."""
    return rule_result(book, given, state, rule) is not None


def book_next(book, given, state):
    """The result of the first rule that applies at a state, or None if the run ends here."""
    return book.carried_out(given, state)[0]


def _met_states(book, given, state):
    """A run: the dict of its states with their indexes, the last one of them, and the one that is met again or None."""
    met = {}
    last = None
    while state is not None and state not in met:
        met[state] = len(met)
        last = state
        state = book_next(book, given, state)
    return (met, last, state)


def course(book, given, state=None):
    """How a run goes on: ("ends", steps, final), or ("cycle", tail, length)."""
    met, last, again = _met_states(book, given, book.start if state is None else state)
    if again is None:
        return ("ends", len(met) - 1, last)
    return ("cycle", met[again], len(met) - met[again])


def final_state(book, given):
    """The state at which the run from the start of a book ends, or None if it goes on for ever."""
    _, last, again = _met_states(book, given, book.start)
    return last if again is None else None


def advance(book, given, state, steps):
    """The state after so many steps, or None if the run ends before."""
    for _ in range(steps):
        if state is None:
            return None
        state = book_next(book, given, state)
    return state


def shown(book, given, state=None):
    """The states that a run shows, in order; it ends before it repeats itself."""
    now = book.start if state is None else state
    met = {}
    while now is not None and now not in met:
        met[now] = True
        now, shows = book.carried_out(given, now)
        if shows:
            yield now
