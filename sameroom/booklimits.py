"""Bounds of books and of their rules."""

from sameroom.cells import names_of
from sameroom.expressions import OWN_NAMES, is_name, levels_in
from sameroom.limits import are_names, argument_counts, calls_fit, fits, keeps_names, keeps_sizes

MOST_CELLS = 6
MOST_SIZE = 40
MOST_PLACES = 500
MOST_RULES = 2000
MOST_HELPERS = 4
MOST_NODES = 120
MOST_DEPTH = 20


def _cells_fit(cells):
    """Whether there are 1 to 6 cells, and each has a name or an own name, a size and a start that are right."""
    if not 1 <= len(cells) <= MOST_CELLS:
        return False
    for name, size, start in cells:
        if not is_name(name) and name not in OWN_NAMES:
            return False
        if not 1 <= size <= MOST_SIZE or not 0 <= start < size:
            return False
    return True


def frame_fits(given, cells, places, rules, helpers, first, last):
    """Whether all of a book is right that is not in a rule."""
    if not keeps_names(given, ()) or not keeps_sizes(given, (), 1) or not _cells_fit(cells):
        return False
    names = names_of(given + cells)
    if len(set(names)) < len(names):
        return False
    if not 1 <= places <= MOST_PLACES or not 0 <= first < places or not 0 <= last < places:
        return False
    return len(rules) <= MOST_RULES and len(helpers) <= MOST_HELPERS and are_names(names_of(helpers))


def _rule_fits(rule, names, cell_names, places, counts):
    place, guard, cell, old, new, after, _ = rule
    if not 0 <= place < places or not 0 <= after < places:
        return False
    # The rule must be undone by what its expressions say, so they do not mention the cell that it changes.
    others = [name for name in names if name != cell]
    for expression in (guard, old, new):
        levels = levels_in(expression)
        if not fits(levels, MOST_NODES, MOST_DEPTH, others) or not calls_fit(levels, counts):
            return False
    if cell is None:
        return old == 0 and new == 0
    return cell in cell_names


def wrong_rule(given, cells, places, rules, helpers):
    """The index of the first rule that is not right, or None."""
    names = names_of(given + cells)
    cell_names = names_of(cells)
    counts = argument_counts(helpers)
    for at, rule in enumerate(rules):
        if not _rule_fits(rule, names, cell_names, places, counts):
            return at
    return None
