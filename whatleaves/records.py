"""Written runs."""

from whatleaves.errors import NoRecord
from whatleaves.words import is_number


class Record:
    """A written run: rows (case, choices), each one call, of which a later one may use the earlier ones."""

    def __init__(self, *rows):
        if len(rows) == 0:
            raise NoRecord(0)
        for k, row in enumerate(rows):
            if not _is_row(row):
                raise NoRecord(k)
        self.rows = rows

    @classmethod
    def made(cls, rows):
        """The record with the rows of a tuple or list."""
        return cls(*rows)

    def __len__(self):
        return len(self.rows)

    def __getitem__(self, at):
        return self.rows[at]

    def __iter__(self):
        raise TypeError("take the rows of a record from its attribute rows")

    def __eq__(self, other):
        return isinstance(other, Record) and self.rows == other.rows


def _is_row(x):
    if not isinstance(x, tuple) or len(x) != 2:
        return False
    case, choices = x
    return _is_case(case) and isinstance(choices, tuple) and all([_is_choice(choice) for choice in choices])


def _is_case(x):
    """Whether x, any value, has the form of a case with None or a class as handled."""
    if not isinstance(x, tuple) or len(x) != 3:
        return False
    function, given, handled = x
    if not isinstance(function, str) or not (handled is None or isinstance(handled, str)):
        return False
    return isinstance(given, tuple) and all([isinstance(thing, str) for thing in given])


def _is_choice(x):
    if isinstance(x, tuple):
        return len(x) == 1 and is_number(x[0])
    return isinstance(x, str) or is_number(x)
