"""The errors of the program. Each keeps its field just as it was given."""


class MarksError(ValueError):
    """What is wrong with a value that was given."""


class BadCrowd(MarksError):
    """No crowd can have this part: "people" or "most"."""

    def __init__(self, part):
        self.part = part


class BadPage(MarksError):
    """These are no marks of a page."""

    def __init__(self, value):
        self.value = value


class BadRule(MarksError):
    """No rule can have this part."""

    def __init__(self, part):
        self.part = part


class BadPair(MarksError):
    """This is no pair that is meant here."""

    def __init__(self, value):
        self.value = value


class BadMark(MarksError):
    """This is no mark, or no row of marks, that is meant here."""

    def __init__(self, value):
        self.value = value


class BadArgument(MarksError):
    """This argument is not of the kind that is asked for."""

    def __init__(self, value):
        self.value = value


class BadNumber(MarksError):
    """This is no number that is meant here."""

    def __init__(self, number):
        self.number = number


class BadChange(MarksError):
    """This change cannot be made."""

    def __init__(self, value):
        self.value = value


class BadCommand(MarksError):
    """This is no command, or none that can be done."""

    def __init__(self, command):
        self.command = command


class BadText(MarksError):
    """The text is wrong in this line."""

    def __init__(self, line):
        self.line = line


class TooMany(OverflowError):
    """There are more cases to go through than this."""

    def __init__(self, most):
        self.most = most


class NotThere(LookupError):
    """This is nobody of the crowd."""

    def __init__(self, word):
        self.word = word


class NothingLeft(LookupError):
    """There is nothing to take back, or to make again."""
