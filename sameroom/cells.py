"""Cells, given cells too: tuples of a name, a size and perhaps more; their names, and the values they can have."""


def names_of(cells):
    """The names of cells, or of anything else that is a tuple with its name in front."""
    return [cell[0] for cell in cells]


def value_count(cells):
    """How many tuples of values the cells can have; 1 without cells."""
    count = 1
    for cell in cells:
        count = count * cell[1]
    return count


def all_values(cells):
    """The list of all tuples of values that cells can have, ascending."""
    rows = [()]
    for cell in cells:
        rows = [row + (value,) for row in rows for value in range(cell[1])]
    return rows


def in_range(cells, values):
    """Whether each value is in the range of its cell."""
    for cell, value in zip(cells, values):
        if not 0 <= value < cell[1]:
            return False
    return True


def with_starts(cells, values):
    """The same cells, but with these values as their starts."""
    return tuple([(cell[0], cell[1], value) for cell, value in zip(cells, values)])
