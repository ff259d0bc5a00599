"""The errors of the package."""


class StudyError(ValueError):
    """What the errors about values that are of the wrong kind or form derive from."""


class InvalidName(StudyError):
    """What is passed is no name."""


class InvalidFraction(StudyError):
    """What is passed is no fraction."""


class InvalidLot(StudyError):
    """What is passed is no lot, or not such a lot as is wanted."""


class InvalidDiagram(StudyError):
    """What is passed is no diagram, or makes none."""


class InvalidTable(StudyError):
    """What is passed is no table, or makes none."""


class InvalidWorld(StudyError):
    """What is passed is no world, or makes none."""


class InvalidDeed(StudyError):
    """What is passed is no deed, or no event."""


class InvalidWeb(StudyError):
    """What is passed is no web or picture, or makes none."""


class InvalidQuestion(StudyError):
    """What is passed is no question."""


class InvalidStudy(StudyError):
    """There is a study of this name."""


class InvalidOperation(StudyError):
    """What is passed is not what the call works on."""


class ParseError(StudyError):
    """A text cannot be read: the spot is an index, or None if there is no text."""

    def __init__(self, spot):
        self.spot = spot


class InvalidNumber(IndexError):
    """What is given is no such number as is wanted."""

    def __init__(self, given):
        self.given = given


class UnknownName(KeyError):
    """What is asked for is not there."""

    def __init__(self, asked):
        self.asked = asked


class NothingToUndo(LookupError):
    """There are not so many commits to go over."""

    def __init__(self, many):
        self.many = many


class TooMany(OverflowError):
    """A limit is passed."""

    def __init__(self, limit):
        self.limit = limit


class Refused(ArithmeticError):
    """What is asked for cannot be done: the reason begins with a word."""

    def __init__(self, reason):
        self.reason = reason
