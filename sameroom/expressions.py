"""Names and expressions: their size, their value, their names, and numbers put in for names."""

RESERVED = (
    "and", "answer", "answers", "begin", "book", "case", "cell", "div", "do", "else", "end", "fail",
    "finger", "from", "given", "helper", "if", "line", "mark", "mod", "not", "or", "pick", "places",
    "procedure", "program", "set", "stop", "to", "when", "while",
)
OWN_NAMES = ("answer", "mark", "line", "finger")
LETTERS = "abcdefghijklmnopqrstuvwxyz"
DIGITS = "0123456789"
LONGEST_NAME = 8

# The kinds of steps (see steps_of).
NUMBER = 0
NAME = 1
PAIR = 2
NOT = 3
CALL = 4


def is_name(text):
    """Whether a string may name a cell, a procedure or a program."""
    if not 1 <= len(text) <= LONGEST_NAME or text[0] not in LETTERS or text in RESERVED:
        return False
    for sign in text:
        if sign not in LETTERS and sign not in DIGITS:
            return False
    return True


def parts_of(expression):
    """The expressions of which an expression consists directly, from left to right."""
    if isinstance(expression, (int, str)):
        return ()
    if expression[0] == "call":
        return expression[2]
    return expression[1:]


def inner_first(expression):
    """The list of an expression and all that lies within it, each one behind its own parts."""
    # A list of what is still to be done, not recursion: texts may say expressions of any depth.
    todo = [expression]
    found = []
    while todo:
        part = todo.pop()
        found.append(part)
        todo.extend(parts_of(part))
    return found[::-1]


def folded(expression, combine):
    """What `combine(part, results)` makes of the expression, given what it made of the parts of each part."""
    results = []
    for part in inner_first(expression):
        first = len(results) - len(parts_of(part))
        results[first:] = [combine(part, results[first:])]
    return results[0]


def levels_in(expression):
    """The list of pairs of all that lies within an expression and its level: 1 for itself, 2 for its parts."""
    todo = [(expression, 1)]
    found = []
    while todo:
        part, level = todo.pop()
        found.append((part, level))
        if isinstance(part, tuple):
            todo.extend([(inner, level + 1) for inner in parts_of(part)])
    return found


def expression_size(expression):
    """The number of nodes of an expression, and its depth."""
    levels = [level for _, level in levels_in(expression)]
    return (len(levels), max(levels))


def _either(left, right):
    return 1 if left != 0 or right != 0 else 0


def _both(left, right):
    return 1 if left != 0 and right != 0 else 0


def _equal(left, right):
    return 1 if left == right else 0


def _unequal(left, right):
    return 1 if left != right else 0


def _less(left, right):
    return 1 if left < right else 0


def _at_most(left, right):
    return 1 if left <= right else 0


def _greater(left, right):
    return 1 if left > right else 0


def _at_least(left, right):
    return 1 if left >= right else 0


def _total(left, right):
    return left + right


def _difference(left, right):
    return left - right


def _product(left, right):
    return left * right


def _quotient(left, right):
    return 0 if right == 0 else left // right


def _remainder(left, right):
    return left - right * _quotient(left, right)


ACTIONS = {
    "or": _either, "and": _both,
    "=": _equal, "!=": _unequal, "<": _less, "<=": _at_most, ">": _greater, ">=": _at_least,
    "+": _total, "-": _difference, "*": _product, "div": _quotient, "mod": _remainder,
}


def _step_of(part):
    if isinstance(part, int):
        return (NUMBER, part)
    if isinstance(part, str):
        return (NAME, part)
    if part[0] == "call":
        return (CALL, (part[1], len(part[2])))
    if part[0] == "not":
        return (NOT, None)
    return (PAIR, ACTIONS[part[0]])


def steps_of(expression):
    """The steps that work an expression out, one for each part: each a kind and what it works with."""
    # Machines keep them, since taking an expression apart takes longer than working it out.
    return tuple([_step_of(part) for part in inner_first(expression)])


def worked_out(steps, values, helpers):
    """The value to which the steps of an expression lead; `helpers` is a dict."""
    results = []
    for kind, worth in steps:
        if kind == NUMBER:
            results.append(worth)
        elif kind == NAME:
            results.append(values[worth])
        elif kind == PAIR:
            right = results.pop()
            results.append(worth(results.pop(), right))
        elif kind == NOT:
            results.append(1 if results.pop() == 0 else 0)
        else:
            name, count = worth
            first = len(results) - count
            results[first:] = [helpers[name].call_value(tuple(results[first:]))]
    return results[0]


def value_of(expression, values, helpers=()):
    """The value of an expression, by the values of its names and the helpers that it calls."""
    return worked_out(steps_of(expression), values, dict(helpers))


def replaced(expression, name, number):
    """The expression with a number in the place of a name, wherever it stands for a cell."""

    def combine(part, parts):
        if isinstance(part, str):
            return number if part == name else part
        if isinstance(part, int):
            return part
        if part[0] == "call":
            return ("call", part[1], tuple(parts))
        return (part[0], *parts)

    return folded(expression, combine)


def names_in(expression):
    """The names of cells and the own names in an expression, ascending."""
    return tuple(sorted({part for part in inner_first(expression) if isinstance(part, str)}))


def calls_in(expression):
    """The names that an expression calls, ascending."""
    calls = [part for part in inner_first(expression) if isinstance(part, tuple) and part[0] == "call"]
    return tuple(sorted({call[1] for call in calls}))
