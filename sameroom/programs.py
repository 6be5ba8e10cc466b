"""Programs and libraries of programs."""

from sameroom.errors import BadLibrary, ProcedureCycle, UnknownProgram
from sameroom.libraryrules import CYCLE_RULE, broken_rule, shortest_cycle

MOST_PROGRAMS = 5


class Program:
    """A program as it is told; nothing is checked before it stands in a library."""

    def __init__(self, name, given, cells, answers, procedures, body):
        self.name = name
        self.given = given
        self.cells = cells
        self.answers = answers
        self.procedures = procedures
        self.body = body

    def __eq__(self, other):
        if not isinstance(other, Program):
            return False
        return (
            self.name == other.name and self.given == other.given and self.cells == other.cells
            and self.answers == other.answers and self.procedures == other.procedures and self.body == other.body
        )


class Library:
    """Programs that keep all rules; each may ask how earlier ones end."""

    def __init__(self, programs):
        if len(programs) > MOST_PROGRAMS:
            raise BadLibrary(MOST_PROGRAMS, 0)
        for at, program in enumerate(programs):
            rule = broken_rule(program, programs[:at])
            if rule == CYCLE_RULE:
                raise ProcedureCycle(at, shortest_cycle(program.procedures))
            if rule > 0:
                raise BadLibrary(at, rule)
        self.programs = programs

    def named(self, name):
        """The program with this name."""
        for program in self.programs:
            if program.name == name:
                return program
        raise UnknownProgram(name)

    def __len__(self):
        return len(self.programs)

    def __iter__(self):
        return iter(self.programs)

    def __contains__(self, text):
        return text in [program.name for program in self.programs]

    def __eq__(self, other):
        if not isinstance(other, Library):
            return False
        return self.programs == other.programs
