"""Bounds that programs, codes and books share: on their cells, and on the expressions in them."""

from sameroom.cells import names_of, value_count
from sameroom.expressions import is_name

MOST_GIVEN = 3
MOST_CELLS = 4
MOST_SIZE = 8
MOST_GIVEN_VALUES = 32
MOST_CELL_VALUES = 64
MOST_ANSWERS = 9
MOST_NUMBER = 999
MOST_CASES = 6
MOST_LINES = 24


def are_names(texts):
    """Whether all of these are names, and no two of them the same."""
    for text in texts:
        if not is_name(text):
            return False
    return len(set(texts)) == len(texts)


def keeps_names(given, cells):
    """Rule 2: few cells, with names of their own."""
    if len(given) > MOST_GIVEN or len(cells) > MOST_CELLS:
        return False
    return are_names(names_of(given) + names_of(cells))


def keeps_sizes(given, cells, answers):
    """Rule 3: small sizes, starts within them, small products, and 1 to 9 answers."""
    for cell in given + cells:
        if not 1 <= cell[1] <= MOST_SIZE:
            return False
    for cell in cells:
        if not 0 <= cell[2] < cell[1]:
            return False
    if value_count(given) > MOST_GIVEN_VALUES or value_count(cells) > MOST_CELL_VALUES:
        return False
    return 1 <= answers <= MOST_ANSWERS


def fits(levels, most_nodes, most_depth, names):
    """Whether an expression, told as by `levels_in`, is small, its numbers too, and all its names are among these."""
    if len(levels) > most_nodes:
        return False
    for part, level in levels:
        if level > most_depth or isinstance(part, int) and not -MOST_NUMBER <= part <= MOST_NUMBER:
            return False
        if isinstance(part, str) and part not in names:
            return False
    return True


def argument_counts(helpers):
    """How many arguments a call of each helper has; `helpers` are pairs of a name and what has given cells."""
    return {name: len(helper.given) for name, helper in helpers}


def calls_fit(levels, counts):
    """Whether every call in an expression, told as by `levels_in`, has as many arguments as the dict says."""
    for part, _ in levels:
        if isinstance(part, tuple) and part[0] == "call":
            if part[1] not in counts or len(part[2]) != counts[part[1]]:
                return False
    return True
