"""Plays records: does their rows, from the first to the last."""

from whatleaves.acts import Acts
from whatleaves.errors import NoCase, NoRecord, TooMany
from whatleaves.runs import Run

MOST_LETTERS = 60


def play(program, record):
    """Do the rows of a record; raise NoRecord for the first one that cannot be done."""
    runs = []
    for k, row in enumerate(record.rows):
        if not _is_case_of(program, row[0]):
            raise NoRecord(k)
        run = Run(program, k, row, runs)
        run.do()
        runs.append(run)
    return Played(runs)


class Played:
    """What became of the rows of a record."""

    def __init__(self, runs):
        errors = [run.error for run in runs]
        needed = _needed_rows(runs)
        acts = [act for k in needed for act in runs[k].acts]
        self.outcomes = tuple(["returns" if error is None else error.name for error in errors])
        self.lengths = tuple([None if error is None else error.length() for error in errors])
        self.opens = tuple([None if error is None else error.is_open for error in errors])
        self.needed = needed
        self.acts = Acts(*acts)
        self._errors = errors

    def front(self, k):
        """The front of the error that leaves row k, or None if the row returns."""
        if self.lengths[k] is None:
            return None
        if self.lengths[k] > MOST_LETTERS:
            raise TooMany("letters", MOST_LETTERS)
        return self._errors[k].spelled()


def _is_case_of(program, case):
    """Whether program.case would return this case."""
    function, given, handled = case
    try:
        return program.case(function, *given, handled=handled) == case
    except NoCase:
        return False


def _needed_rows(runs):
    """The rows that the last row uses, ascending: it itself, and those that are called in a needed row."""
    needed = {len(runs) - 1: True}
    for k in range(len(runs) - 1, -1, -1):
        if k in needed:
            for i in runs[k].used:
                needed[i] = True
    return tuple(sorted(list(needed)))
