"""The rules that a library asks of each of its programs."""

from sameroom.cells import names_of
from sameroom.expressions import is_name, levels_in
from sameroom.limits import (
    MOST_CASES, MOST_LINES, are_names, argument_counts, calls_fit, fits, keeps_names, keeps_sizes,
)
from sameroom.statements import done_in, expressions_of, line_count, statements_in

MOST_PROCEDURES = 4
MOST_STATEMENTS = 60
MOST_AROUND = 5
MOST_NODES = 30
MOST_DEPTH = 8
CYCLE_RULE = 8


def _all_statements(program):
    """All statements of a program with the numbers of those around them, in the procedures and the main body."""
    found = statements_in(program.body)
    for _, body in program.procedures:
        found = found + statements_in(body)
    return found


def _all_expressions(program):
    """The list of all expressions in the statements of a program."""
    found = []
    for statement, _ in _all_statements(program):
        found.extend(expressions_of(statement))
    return found


def _rule_1(program, earlier):
    return is_name(program.name) and program.name not in [other.name for other in earlier]


def _rule_2(program, _):
    return keeps_names(program.given, program.cells)


def _rule_3(program, _):
    return keeps_sizes(program.given, program.cells, program.answers)


def _rule_4(program, _):
    return len(program.procedures) <= MOST_PROCEDURES and are_names(names_of(program.procedures))


def _statement_fits(statement, program):
    if statement[0] == "set":
        return statement[1] in names_of(program.cells)
    if statement[0] == "do":
        return statement[1] in names_of(program.procedures)
    if statement[0] == "pick":
        return 1 <= len(statement[2]) <= MOST_CASES
    return True


def _rule_5(program, _):
    statements = _all_statements(program)
    for statement, around in statements:
        if around > MOST_AROUND or not _statement_fits(statement, program):
            return False
    return len(statements) <= MOST_STATEMENTS


def _rule_6(program, _):
    names = names_of(program.given) + names_of(program.cells)
    for expression in _all_expressions(program):
        if not fits(levels_in(expression), MOST_NODES, MOST_DEPTH, names):
            return False
    return True


def _rule_7(program, earlier):
    counts = argument_counts([(other.name, other) for other in earlier])
    for expression in _all_expressions(program):
        if not calls_fit(levels_in(expression), counts):
            return False
    return True


def shortest_cycle(procedures):
    """The names of the shortest cycle of procedures, of several the one with the least indexes; () for none."""
    names = names_of(procedures)
    done = [done_in(body) for _, body in procedures]
    # The paths of one length at a time, and these in ascending order: so the first that closes is the one.
    # None meets a procedure twice, since a shorter path would have closed before.
    paths = [[at] for at in range(len(names))]
    while paths:
        for path in paths:
            if names[path[0]] in done[path[-1]]:
                return tuple([names[at] for at in path])
        paths = [path + [at] for path in paths for at in range(len(names)) if names[at] in done[path[-1]]]
    return ()


def _rule_8(program, _):
    return shortest_cycle(program.procedures) == ()


def _rule_9(program, _):
    return line_count(program) <= MOST_LINES


RULES = (_rule_1, _rule_2, _rule_3, _rule_4, _rule_5, _rule_6, _rule_7, _rule_8, _rule_9)


def broken_rule(program, earlier):
    """The least number of a rule that a program breaks behind these earlier ones, which break none; 0 for none."""
    for at in range(len(RULES)):
        rule = RULES[at]
        if not rule(program, earlier):
            return at + 1
    return 0
