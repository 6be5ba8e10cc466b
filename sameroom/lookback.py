"""Looking back: books that walk round all states from which a state is reached."""

from sameroom.books import Book
from sameroom.cells import all_values, with_starts
from sameroom.fingers import predecessors
from sameroom.originrules import OriginRules
from sameroom.plain import start_state
from sameroom.running import course, shown
from sameroom.walkers import finger_at, helper_walkers
from sameroom.ways import BEGIN, HOME, first_places


def origins_book(code, state):
    """The book that shows each origin of a state once, and ends with the mark 1 if the state comes back."""
    cells = with_starts(code.cells, state[1]) + (("mark", 2, 0),)
    rules = tuple(OriginRules(code, state).rules)
    return Book(code.given, cells, first_places(code)[-1], rules, helper_walkers(code), BEGIN, HOME)


def _shown_origins(code, book, given):
    """The origins that an origins book of a code shows, in order."""
    for place, values in shown(book, given):
        line, _ = finger_at(code, place)
        yield (line, values[:-1])


def origins(code, given, state):
    """All other states whose run meets this one."""
    book = origins_book(code, state)
    yield from _shown_origins(code, book, given)


def comes_back(code, given, state):
    """Whether the run of a state meets it again."""
    _, _, final = course(origins_book(code, state), given)
    return final[1][-1] == 1


def first_origins(code, given, state):
    """The origins that have no predecessors."""
    for origin in origins(code, given, state):
        if predecessors(code, given, origin) == ():
            yield origin


def _is_reached(code, book, given, one, two):
    """Whether the run from `one` meets `two`, of which the book shows the origins."""
    if one == two:
        return True
    for origin in _shown_origins(code, book, given):
        if origin == one:
            return True
    return False


def leads_to(code, given, one, two):
    """Whether the run from the state `one` meets the state `two`."""
    return _is_reached(code, origins_book(code, two), given, one, two)


def givens_to(code, state):
    """All givens at which the run from the start state meets a state, ascending."""
    book = origins_book(code, state)
    start = start_state(code)
    return tuple([given for given in all_values(code.given) if _is_reached(code, book, given, start, state)])
