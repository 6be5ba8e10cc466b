"""What programs consist of: bodies, the statements in them, and what lies within these."""


def inner_bodies(statement):
    """The bodies that a statement has, in order."""
    if statement[0] == "if":
        return (statement[2], statement[3])
    if statement[0] == "while":
        return (statement[2],)
    if statement[0] == "pick":
        return statement[2]
    return ()


def expressions_of(statement):
    """The expressions that stand directly in a statement, or in a line of a code: one or none."""
    if statement[0] == "set":
        return (statement[2],)
    if statement[0] in ("if", "while", "pick", "stop"):
        return (statement[1],)
    return ()


def statements_in(body):
    """All statements of a body and within them, as a list of pairs (statement, how many others it lies within)."""
    todo = [(statement, 0) for statement in body]
    found = []
    while todo:
        statement, around = todo.pop()
        found.append((statement, around))
        for inner in inner_bodies(statement):
            todo.extend([(deeper, around + 1) for deeper in inner])
    return found


def done_in(body):
    """The names of the procedures that are done anywhere in a body."""
    return [statement[1] for statement, around in statements_in(body) if statement[0] == "do"]


def lines_of_body(body, procedures, counts):
    """How many lines a body has; `procedures` is a dict, `counts` keeps the number for each one that was counted."""
    count = 0
    for statement, _ in statements_in(body):
        if statement[0] != "do":
            count = count + 1
        else:
            name = statement[1]
            if name not in counts:
                counts[name] = lines_of_body(procedures[name], procedures, counts)
            count = count + counts[name]
    return count


def line_count(program):
    """How many lines the code of a program has, the closing line included; no procedure does itself."""
    # A count on its own: procedures that do one another make millions of lines long before a rule stops them.
    return lines_of_body(program.body, dict(program.procedures), {}) + 1
