"""What several tests share: looking at raised errors and at kinds of values, and making expressions by chance."""

from sameroom.errors import RoomError

BINARY = ("or", "and", "=", "!=", "<", "<=", ">", ">=", "+", "-", "*", "div", "mod")


def told(function, *args, **more):
    """What a call returns, or the name and the fields of the RoomError that it raises."""
    try:
        return function(*args, **more)
    except RoomError as error:
        return (type(error).__name__, vars(error))


def is_plain(value):
    """Whether a value is a string, a whole number that is no bool, None, or a tuple of such at every level."""
    if type(value) is tuple:
        return all(is_plain(item) for item in value)
    return value is None or type(value) in (int, str)


def deep(depth):
    """An expression with this depth and as many nodes."""
    expression = "x"
    for _ in range(depth - 1):
        expression = ("not", expression)
    return expression


def wide(nodes):
    """An expression with this number of nodes, as shallow as possible."""
    parts = [1] * ((nodes + 1) // 2)
    while len(parts) > 1:
        pairs = [("+", parts[at], parts[at + 1]) for at in range(0, len(parts) - 1, 2)]
        parts = pairs + parts[len(pairs) * 2:]
    return parts[0] if nodes % 2 == 1 else ("not", wide(nodes - 1))


def chance_expression(chance, names, calls=(), depth=4):
    """A random expression; `calls` are pairs of a name and the number of its arguments."""
    kind = chance.randrange(8) if depth > 1 else 0
    if kind == 0:
        return chance.choice((*names, chance.randrange(-4, 9), chance.randrange(-4, 9)))
    if kind == 1:
        return ("not", chance_expression(chance, names, calls, depth - 1))
    if kind == 2 and calls:
        name, count = chance.choice(calls)
        return ("call", name, tuple(chance_expression(chance, names, calls, depth - 1) for _ in range(count)))
    left = chance_expression(chance, names, calls, depth - 1)
    right = chance_expression(chance, names, calls, depth - 1)
    return (chance.choice(BINARY), left, right)


def slow_value(expression, values, helpers):
    """The value of an expression, straight from the words of the document; `helpers` is a dict."""
    if isinstance(expression, int):
        return expression
    if isinstance(expression, str):
        return values[expression]
    parts = expression[2] if expression[0] == "call" else expression[1:]
    numbers = tuple(slow_value(part, values, helpers) for part in parts)
    if expression[0] == "call":
        return helpers[expression[1]].call_value(numbers)
    if expression[0] == "not":
        return int(numbers[0] == 0)
    left, right = numbers
    return {
        "or": int(bool(left) or bool(right)), "and": int(bool(left) and bool(right)),
        "=": int(left == right), "!=": int(left != right), "<": int(left < right),
        "<=": int(left <= right), ">": int(left > right), ">=": int(left >= right),
        "+": left + right, "-": left - right, "*": left * right,
        "div": left // right if right else 0, "mod": left % right if right else left,
    }[expression[0]]
