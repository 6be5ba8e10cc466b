"""Compiling: the codes of programs, and from where their lines come."""

from sameroom.codes import Code
from sameroom.expressions import calls_in
from sameroom.layouts import Layout
from sameroom.statements import expressions_of


def _calls_of(lines):
    """The list of the names that the expressions of lines call."""
    calls = []
    for line in lines:
        for expression in expressions_of(line):
            calls.extend(calls_in(expression))
    return calls


def _compiled(program, codes):
    """The code of a program; `codes` has the codes of the earlier ones, in the order of the library."""
    lines = tuple(Layout(program).lines)
    calls = _calls_of(lines)
    helpers = tuple([(name, code) for name, code in codes.items() if name in calls])
    return Code(program.given, program.cells, program.answers, lines, helpers)


def code_of(library, name):
    """The code of the program with this name."""
    asked = library.named(name)
    # Each earlier program gets one code, which all that call it share, and with it what it keeps.
    codes = {}
    for program in library:
        if program.name == asked.name:
            break
        codes[program.name] = _compiled(program, codes)
    return _compiled(asked, codes)


def line_sources(library, name):
    """For each line of a code the pairs that lead to the statement from which it comes."""
    return tuple(Layout(library.named(name)).sources)
