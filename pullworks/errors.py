"""The errors that the package raises, each with its fields as attributes."""


class PullError(ArithmeticError):
    """Any error of the package."""


class InvalidTest(PullError):
    """A value that is not a test."""

    def __init__(self, test):
        self.test = test


class InvalidNet(PullError):
    """Nodes that make no net: the index of the first wrong one, or -1."""

    def __init__(self, at):
        self.at = at


class InvalidName(PullError):
    """A value that is not the name of what it should name."""

    def __init__(self, name):
        self.name = name


class InvalidBound(PullError):
    """An argument that is not valid: the name of this argument."""

    def __init__(self, part):
        self.part = part


class InvalidSchedule(PullError):
    """Steps that make no schedule: the index of the first wrong one, or -1."""

    def __init__(self, at):
        self.at = at


class InvalidEvent(PullError):
    """A value that is not the number of an event."""

    def __init__(self, number):
        self.number = number


class InvalidCall(PullError):
    """A call that cannot be made: the word for the reason."""

    def __init__(self, call):
        self.call = call


class InvalidRecord(PullError):
    """Entries that make no record: the index of the first wrong one, or -1."""

    def __init__(self, at):
        self.at = at


class InvalidRule(PullError):
    """A value that is not the name of a rule."""

    def __init__(self, rule):
        self.rule = rule


class InvalidText(PullError):
    """A text that is not the text of a net: the line and the word."""

    def __init__(self, line, word):
        self.line = line
        self.word = word


class LimitExceeded(PullError):
    """More than the package works out: the limit that is passed."""

    def __init__(self, limit):
        self.limit = limit
