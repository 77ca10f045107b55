"""The errors that the package raises."""


class LevelError(ValueError):
    """The base class of all errors about values."""


class InvalidNet(LevelError):
    """There is no such net; word is "posts", "ties" or "joined"."""

    def __init__(self, word):
        self.word = word


class InvalidText(LevelError):
    """The line with the number at is not of the form that its place asks for."""

    def __init__(self, at):
        self.at = at


class InvalidReadings(LevelError):
    """These are no readings; at is the number of the first thing that is none."""

    def __init__(self, at):
        self.at = at


class InvalidGroups(LevelError):
    """These are no groups; at is the number of the first thing that is none."""

    def __init__(self, at):
        self.at = at


class InvalidCommand(LevelError):
    """A desk has no such command, or not now."""


class Refused(LevelError):
    """Nothing of several things was done, as the one with the index at cannot be."""

    def __init__(self, at):
        self.at = at


class NoTie(IndexError):
    """The net has no tie with this number."""

    def __init__(self, at):
        self.at = at


class NoPost(IndexError):
    """The net has no post with this number."""

    def __init__(self, at):
        self.at = at
