"""The error classes of a program, and the kinds of classes that are made later."""

from whatleaves.errors import NoClass, TooMany
from whatleaves.words import are_different, are_words

MOST_ROWS = 30
MOST_FOR_KINDS = 6


class Classes:
    """Error classes: error, vacant, and one class for each row (name, base, ...)."""

    def __init__(self, *rows):
        lines = {"error": {"error": True}, "vacant": {"vacant": True, "error": True}}
        for k, row in enumerate(rows):
            reason = _fault(row, k, lines)
            if reason is not None:
                raise NoClass(reason, k)
            lines[row[0]] = _line(row, lines)
        self.rows = rows
        self.names = tuple(list(lines))
        self._lines = lines

    @staticmethod
    def plain():
        """The classes that each program has."""
        return Classes()

    @classmethod
    def made(cls, rows):
        """The classes with the rows of a tuple or list."""
        return cls(*rows)

    def __len__(self):
        return len(self.names)

    def __contains__(self, x):
        return isinstance(x, str) and x in self.names

    def __eq__(self, other):
        return isinstance(other, Classes) and self.rows == other.rows

    def within(self, one, other):
        """Whether the class one is the class other or has a base that is within it."""
        return other in self._lines[one]

    def with_rows(self, *rows):
        """New classes with these rows behind the own ones."""
        both = self.rows + rows
        return Classes(*both)

    def kind(self, *names):
        """The kind of a class with these bases."""
        lowest = [x for x in names if not any([y != x and self.within(y, x) for y in names])]
        return tuple(sorted(set(lowest)))

    def kinds(self):
        """All kinds, ascending."""
        if len(self.names) > MOST_FOR_KINDS:
            raise TooMany("classes", MOST_FOR_KINDS)
        parts = [()]
        for name in sorted(self.names):
            parts = parts + [part + (name,) for part in parts if self._is_apart(name, part)]
        return tuple(sorted(parts[1:]))

    def meets(self, kind, names):
        """Whether some class of the kind is within one of the names."""
        return any([self.within(one, other) for one in kind for other in names])

    def kind_of(self, name, among):
        """The kind of a class with regard to the classes among, whose rows are the first rows here."""
        around = [other for other in among.names if self.within(name, other)]
        return among.kind(*around)

    def is_kind(self, x):
        """Whether x, any value, is a kind of these classes."""
        if not isinstance(x, tuple) or len(x) == 0:
            return False
        return all([name in self for name in x]) and self.kind(*x) == x

    def _is_apart(self, name, part):
        """Whether the class name is within no class of the part, and none of them within it."""
        return not any([self.within(name, one) or self.within(one, name) for one in part])


def _fault(row, k, lines):
    """The reason why row k makes no class behind the classes of lines, or None."""
    if k == MOST_ROWS:
        return "many"
    if not isinstance(row, tuple) or len(row) < 2 or not are_words(row):
        return "row"
    if row[0] in lines:
        return "name"
    bases = row[1:]
    if not all([base in lines for base in bases]) or not are_different(bases):
        return "base"
    return None


def _line(row, lines):
    """The classes that the class of a row is within, as a dict of True."""
    line = {row[0]: True}
    for base in row[1:]:
        for name in lines[base]:
            line[name] = True
    return line
