"""The errors that the program raises."""

VERY_LARGE = 10 ** 18


def _told(number):
    """A number as the message tells it."""
    # Python refuses to write numbers with thousands of digits, and an error can have any number as a field.
    if isinstance(number, int) and not -VERY_LARGE < number < VERY_LARGE:
        return "(a very large number)"
    return f"{number}"


class RoomError(ValueError):
    """The base class of all errors of the package."""


class BadText(RoomError):
    """An expression text cannot be read from the index `at` on."""

    def __init__(self, at):
        super().__init__(f"the text is not right at index {_told(at)}")
        self.at = at


class BadLine(RoomError):
    """A line of a text, counted from 1, is not right or cannot stand there."""

    def __init__(self, line):
        super().__init__(f"the text is not right at line {_told(line)}")
        self.line = line


class BadLibrary(RoomError):
    """A program of a library, by its index, breaks a rule."""

    def __init__(self, program, rule):
        super().__init__(f"program {_told(program)} breaks rule {_told(rule)}")
        self.program = program
        self.rule = rule


class ProcedureCycle(RoomError):
    """Procedures of a program do one another in a circle."""

    def __init__(self, program, names):
        super().__init__(f"procedures of program {_told(program)} do themselves: {names}")
        self.program = program
        self.names = names


class UnknownProgram(RoomError):
    """A library has no program with this name."""

    def __init__(self, name):
        super().__init__(f"no program has the name {name!r}")
        self.name = name


class BadCode(RoomError):
    """A line of a code is not right; -1 stands for all that is not a line."""

    def __init__(self, line):
        super().__init__(f"the code is not right at line {_told(line)}")
        self.line = line


class BadGraph(RoomError):
    """The next of a node is no node of the graph."""

    def __init__(self, node):
        super().__init__(f"the next of node {_told(node)} is no node")
        self.node = node


class BadRotation(RoomError):
    """The row of a node or of a line has not the fingers that it must have."""

    def __init__(self, at):
        super().__init__(f"the row {_told(at)} of the rotation is not right")
        self.at = at


class BadBook(RoomError):
    """A rule of a book is not right; -1 stands for all that is not a rule."""

    def __init__(self, rule):
        super().__init__(f"the book is not right at rule {_told(rule)}")
        self.rule = rule


class TooLarge(RoomError):
    """A book is too large to be looked through."""

    def __init__(self, size):
        super().__init__(f"a book of size {_told(size)} is too large for this question")
        self.size = size


class BadSnapshot(RoomError):
    """A snapshot is not right at the index `at`."""

    def __init__(self, at):
        super().__init__(f"the snapshot is not right at index {_told(at)}")
        self.at = at
