"""The errors of the package, one class for each kind of failure."""


class LeaveError(ValueError):
    """What all errors of the package have in common."""


class NoClass(LeaveError):
    """The row at this place makes no class."""

    def __init__(self, reason, place):
        self.reason = reason
        self.place = place


class NoFunction(LeaveError):
    """A part of a function is refused: a callback or a statement at this place, or something without a place."""

    def __init__(self, reason, place):
        self.reason = reason
        self.place = place


class NoProgram(LeaveError):
    """A part of a program is refused: a function at this place, or a statement at (function, statement)."""

    def __init__(self, reason, place):
        self.reason = reason
        self.place = place


class NoName(LeaveError):
    """Nothing has this name."""

    def __init__(self, name):
        self.name = name


class NoCase(LeaveError):
    """A part of a case is refused."""

    def __init__(self, reason):
        self.reason = reason


class NoText(LeaveError):
    """The rows of a text up to this one begin no text."""

    def __init__(self, row):
        self.row = row


class NoAct(LeaveError):
    """The row at this place is no act."""

    def __init__(self, place):
        self.place = place


class NoRecord(LeaveError):
    """This row of a record has not the form of a row, or it cannot be done."""

    def __init__(self, row):
        self.row = row


class Barred(LeaveError):
    """This outcome cannot come about."""

    def __init__(self, outcome):
        self.outcome = outcome


class Unlike(LeaveError):
    """Two programs cannot be compared, since these parts of them differ."""

    def __init__(self, reason):
        self.reason = reason


class TooMany(LeaveError):
    """There are more of these than the most that are allowed."""

    def __init__(self, what, most):
        self.what = what
        self.most = most


class NoRow(LeaveError):
    """A row that is said to the desk has no known form."""
