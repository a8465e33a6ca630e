"""The errors of the program."""


class FabricError(ValueError):
    """Every error of the program is one of these."""


class BadText(FabricError):
    """A text that is not of the form that is asked for; line is counted from 1."""

    def __init__(self, line):
        super().__init__(f"line {line} is wrong")
        self.line = line


class NotPossible(FabricError):
    """A script with a step that is not possible; number is its index from 0."""

    def __init__(self, number):
        super().__init__(f"step {number} is not possible")
        self.number = number


class NotAllowed(FabricError):
    """Arguments for which there is no result."""


class NoAnswer(FabricError):
    """A question that has no answer."""
