"""The lines of a program in their order, each with the way to the statement from which it comes."""

from sameroom.statements import inner_bodies, lines_of_body


def _line_of(statement, onward, targets):
    """The line of a statement that leads on to `onward`; `targets` has a line for each of its inner bodies."""
    if statement[0] == "set":
        return ("set", statement[1], statement[2], onward)
    if statement[0] == "if":
        return ("pick", ("!=", statement[1], 0), (targets[1], targets[0]))
    if statement[0] == "while":
        return ("pick", ("!=", statement[1], 0), (onward, targets[0]))
    if statement[0] == "pick":
        return ("pick", statement[1], tuple(targets))
    return statement


class Layout:
    """The lines of a program, and for each of them its source.

    While a body is laid out, `trail` has the pairs that lead to it from the main body, `procedure` is the name of
    the procedure in which it stands, or None, and `path` leads to it within that procedure.
    """

    def __init__(self, program):
        self.lines = []
        self.sources = []
        self.procedures = dict(program.procedures)
        self.counts = {}
        self.take_body(program.body, self.total_of(program.body), (), None, ())
        self.lines.append(("stop", 0))
        self.sources.append(((None, (len(program.body),)),))

    def total_of(self, body):
        """How many lines a body has."""
        return lines_of_body(body, self.procedures, self.counts)

    def take_body(self, body, onward, trail, procedure, path):
        """Append the lines of a body that leads on to the line `onward`."""
        end = len(self.lines) + self.total_of(body)
        for at, statement in enumerate(body):
            behind = len(self.lines) + self.total_of((statement,))
            way = (trail, procedure, path + (at,))
            self.take_statement(statement, behind if behind < end else onward, way)

    def take_statement(self, statement, onward, way):
        """Append the lines of a statement that leads on to the line `onward`."""
        trail, procedure, path = way
        source = trail + ((procedure, path),)
        if statement[0] == "do":
            # Procedures without lines may do one another very often.
            if self.total_of((statement,)) > 0:
                self.take_body(self.procedures[statement[1]], onward, source, statement[1], ())
            return
        bodies = inner_bodies(statement)
        inner_onward = len(self.lines) if statement[0] == "while" else onward
        self.lines.append(_line_of(statement, onward, self.targets_for(bodies, inner_onward)))
        self.sources.append(source)
        for number, body in enumerate(bodies):
            self.take_body(body, inner_onward, trail, procedure, path + (number,))

    def targets_for(self, bodies, onward):
        """The first line of each of these bodies, which come behind the next line; `onward` for one without lines."""
        targets = []
        line = len(self.lines) + 1
        for body in bodies:
            total = self.total_of(body)
            targets.append(line if total > 0 else onward)
            line = line + total
        return targets
