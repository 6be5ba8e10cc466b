"""Bounds that programs, codes and books share: on their cells, and on the expressions in them."""

from sameroom.expressions import calls_in, expression_size, inner_first, is_name, names_in

MOST_GIVEN = 3
MOST_CELLS = 4
MOST_SIZE = 8
MOST_GIVEN_VALUES = 32
MOST_CELL_VALUES = 64
MOST_ANSWERS = 9
MOST_NUMBER = 999
MOST_CASES = 6
MOST_LINES = 24


def names_of(cells):
    """The names of cells, or of anything else that is a tuple with its name in front."""
    return [cell[0] for cell in cells]


def are_names(texts):
    """Whether all of these are names, and no two of them the same."""
    for text in texts:
        if not is_name(text):
            return False
    return len(set(texts)) == len(texts)


def value_count(cells):
    """How many tuples of values the cells can have; 1 without cells."""
    count = 1
    for cell in cells:
        count = count * cell[1]
    return count


def keeps_names(given, cells):
    """Rule 2: few cells, with names of their own."""
    if len(given) > MOST_GIVEN or len(cells) > MOST_CELLS:
        return False
    return are_names(names_of(given) + names_of(cells))


def keeps_sizes(given, cells, answers):
    """Rule 3: small sizes, starts within them, small products, and 1 to 9 answers."""
    for cell in given + cells:
        if not 1 <= cell[1] <= MOST_SIZE:
            return False
    for cell in cells:
        if not 0 <= cell[2] < cell[1]:
            return False
    if value_count(given) > MOST_GIVEN_VALUES or value_count(cells) > MOST_CELL_VALUES:
        return False
    return 1 <= answers <= MOST_ANSWERS


def fits(expression, most_nodes, most_depth, names):
    """Whether an expression is small enough, its numbers too, and all its names are among these."""
    nodes, depth = expression_size(expression)
    if nodes > most_nodes or depth > most_depth:
        return False
    for part in inner_first(expression):
        if isinstance(part, int) and not -MOST_NUMBER <= part <= MOST_NUMBER:
            return False
    for name in names_in(expression):
        if name not in names:
            return False
    return True


def argument_counts(helpers):
    """How many arguments a call of each helper has; `helpers` are pairs of a name and what has given cells."""
    return {name: len(helper.given) for name, helper in helpers}


def calls_fit(expression, counts):
    """Whether every call names one of these, with as many arguments as the dict says."""
    for name in calls_in(expression):
        if name not in counts:
            return False
    for part in inner_first(expression):
        if isinstance(part, tuple) and part[0] == "call" and len(part[2]) != counts[part[1]]:
            return False
    return True
