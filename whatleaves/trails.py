"""Which errors leave with which trails."""

from whatleaves.histories import Histories
from whatleaves.levels import Level
from whatleaves.spelling import Speller
from whatleaves.strands import solved_by_strands
from whatleaves.tables import outcomes


# How many cases are looked at first, and how many times as many then.
FIRST_CASES = 8
MORE_CASES = 6


class ByTrail(Level):
    """The level at which it is seen whether the trail of an error is an end of one trail."""

    KIND = "trail"

    def __init__(self, classes, trail):
        super().__init__(classes)
        self.trail = trail

    def view(self, name, cause=None):
        """(name, i) if the trail of the new error is trail[i:], otherwise (name, -1)."""
        behind = len(self.trail) if cause is None else cause[1]
        if behind > 0 and self.trail[behind - 1] == name:
            return (name, behind - 1)
        return (name, -1)

    def taken(self, view, names):
        """Whether the class of an error with this view is within one of the names."""
        return super().taken(view[0], names)

    def does(self, callback, handled):
        """Nothing."""
        return super().does(callback, handled)

    def name_of(self, view):
        """The class of an error with this view."""
        return view[0]


class ByWord(Level):
    """The level at which the view of an error is its trail, if this has at most so many classes."""

    KIND = "word"

    def __init__(self, classes, most):
        super().__init__(classes)
        self.most = most

    def view(self, name, cause=None):
        """The trail of the new error, or (name, "") if it is too long."""
        if cause is None:
            return (name,)
        if cause[-1] == "" or len(cause) >= self.most:
            return (name, "")
        return (name,) + cause

    def taken(self, view, names):
        """Whether the class of an error with this view is within one of the names."""
        return super().taken(view[0], names)

    def does(self, callback, handled):
        """Nothing."""
        return super().does(callback, handled)

    def name_of(self, view):
        """The class of an error with this view."""
        return view[0]


def leaves(program, case, trail):
    """Whether an error with just this trail can leave the case."""
    return (trail[0], 0) in outcomes(program, ByTrail(program.classes, trail), case)


def trails(program, case, most):
    """Yield the trails of at most so many classes that can leave the case, by their number of classes, then ascending.

    Raise TooMany if there are too many trails at the level ByWord, of errors that leave or are handled at calls.
    """
    words = _spelled(program, case, most)
    for trail in words:
        yield trail


def _spelled(program, case, most):
    histories = Histories(solved_by_strands(program, case))
    many = FIRST_CASES
    # Where some cases have too many trails, the others need not be looked at.
    while many < len(histories.cases):
        _spelled_in(histories, case, most, many)
        many = many * MORE_CASES
    return _spelled_in(histories, case, most, len(histories.cases))


def _spelled_in(histories, case, most, many):
    """The trails that leave a case, where only so many cases are known."""
    for one in histories.cases[:many]:
        histories.weave(one)
    histories.settle_bases()
    forms = [form for one in histories.cases for form in histories.whole_trails(one)]
    speller = Speller(histories.grammar, most)
    speller.words_of(forms)
    return speller.words_of(histories.trails_leaving(case))
