"""What the rules of walkers and of origins books are made of."""


def out_of_range(expression, size):
    """The expression that says that the value of another one is not one of 0 to size - 1."""
    return ("or", ("<", expression, 0), (">=", expression, size))


def all_have(pairs):
    """The expression that says of pairs of a cell and a value that each cell has its value; 1 without pairs."""
    joined = 1
    for at, (name, value) in enumerate(pairs):
        says = ("=", name, value)
        joined = says if at == 0 else ("and", joined, says)
    return joined


def plain_rule(place, guard, after):
    """A rule without change."""
    return (place, guard, None, 0, 0, after, False)
