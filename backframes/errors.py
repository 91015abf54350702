"""The errors of the program: each one is made from its attributes."""


class CodeError(ArithmeticError):
    """What all errors of the program have in common."""


class InvalidSource(CodeError):
    """A source that is none: which part of it, and where."""

    def __init__(self, part, at):
        self.part = part
        self.at = at


class InvalidCode(CodeError):
    """Code that is none: which part of it, and where."""

    def __init__(self, part, at):
        self.part = part
        self.at = at


class InvalidText(CodeError):
    """A text that cannot be read: the index of its line."""

    def __init__(self, line):
        self.line = line


class InvalidState(CodeError):
    """A moment of a run that is none: which part of it."""

    def __init__(self, part):
        self.part = part


class InvalidArgument(CodeError):
    """An argument that is not as it must be: which one."""

    def __init__(self, part):
        self.part = part


class InvalidNumber(CodeError):
    """A number that cannot stand there: the number, or what stands in its place."""

    def __init__(self, number):
        self.number = number


class LimitExceeded(CodeError):
    """More than a limit allows: the limit."""

    def __init__(self, limit):
        self.limit = limit
