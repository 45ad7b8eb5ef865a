"""The errors of the package."""


class SitError(ValueError):
    """Something that was passed is wrong, or cannot be done."""


class InvalidRule(SitError):
    """An argument is none that a rule can have."""

    def __init__(self, word):
        self.word = word


class InvalidRoad(SitError):
    """An argument is none that a road can have."""

    def __init__(self, word):
        self.word = word


class InvalidEvent(SitError):
    """A thing is no event."""

    def __init__(self, at):
        self.at = at


class InvalidText(SitError):
    """A line of a text cannot stand where it stands."""

    def __init__(self, at):
        self.at = at


class InvalidGoal(SitError):
    """A thing is no goal."""


class InvalidWhat(SitError):
    """A thing is no word for what is counted."""


class InvalidSeen(SitError):
    """A thing is none that a caller can have seen."""

    def __init__(self, at):
        self.at = at


class InvalidCommand(SitError):
    """A thing is no command, or none that can be done now."""


class Refused(SitError):
    """An event is not possible."""

    def __init__(self, at):
        self.at = at


class NoEvent(IndexError):
    """A road has no event of this number."""

    def __init__(self, at):
        self.at = at
