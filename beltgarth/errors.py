"""The refusals of the program."""


class BeltError(ValueError):
    """Any refusal."""


class NoProgram(BeltError):
    """A program that is not let by: the part, the row and the word of what is due there."""

    def __init__(self, part, row, word):
        self.part = part
        self.row = row
        self.word = word


class NoLine(BeltError):
    """A text that is no program: the number of its first line that is none."""

    def __init__(self, line):
        self.line = line


class Short(BeltError):
    """A program that has too few places: where more names are wanted at once, and which."""

    def __init__(self, part, row, word, names):
        self.part = part
        self.row = row
        self.word = word
        self.names = names
