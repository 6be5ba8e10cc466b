"""The errors that the program raises."""


class RoomError(ValueError):
    """The base class of all errors of the package."""


class BadText(RoomError):
    """An expression text cannot be read from the index `at` on."""

    def __init__(self, at):
        super().__init__(f"the text is not right at index {at}")
        self.at = at


class BadLine(RoomError):
    """A line of a text, counted from 1, is not right or cannot stand there."""

    def __init__(self, line):
        super().__init__(f"the text is not right at line {line}")
        self.line = line


class BadLibrary(RoomError):
    """A program of a library, by its index, breaks a rule."""

    def __init__(self, program, rule):
        super().__init__(f"program {program} breaks rule {rule}")
        self.program = program
        self.rule = rule


class ProcedureCycle(RoomError):
    """Procedures of a program do one another in a circle."""

    def __init__(self, program, names):
        super().__init__(f"procedures of program {program} do themselves: {names}")
        self.program = program
        self.names = names


class UnknownProgram(RoomError):
    """A library has no program with this name."""

    def __init__(self, name):
        super().__init__(f"no program has the name {name!r}")
        self.name = name


class BadCode(RoomError):
    """A line of a code is not right; -1 stands for all that is not a line."""

    def __init__(self, line):
        super().__init__(f"the code is not right at line {line}")
        self.line = line


class BadGraph(RoomError):
    """The next of a node is no node of the graph."""

    def __init__(self, node):
        super().__init__(f"the next of node {node} is no node")
        self.node = node


class BadRotation(RoomError):
    """The row of a node or of a line has not the fingers that it must have."""

    def __init__(self, at):
        super().__init__(f"the row {at} of the rotation is not right")
        self.at = at


class BadBook(RoomError):
    """A rule of a book is not right; -1 stands for all that is not a rule."""

    def __init__(self, rule):
        super().__init__(f"the book is not right at rule {rule}")
        self.rule = rule


class TooLarge(RoomError):
    """A book is too large to be looked through."""

    def __init__(self, size):
        super().__init__(f"a book of size {size} is too large for this question")
        self.size = size


class BadSnapshot(RoomError):
    """A snapshot is not right at the index `at`."""

    def __init__(self, at):
        super().__init__(f"the snapshot is not right at index {at}")
        self.at = at
