"""Clients of a program: classes that are made later, and runs in which errors of these classes leave."""

from whatleaves.errors import Barred, LeaveError
from whatleaves.later import ByKind
from whatleaves.plays import play
from whatleaves.routes import written
from whatleaves.scans import Certain
from whatleaves.solver import solved

LETTERS = "abcdefghijklmnopqrstuvwxyz"


class Client:
    """Rows of classes that are made later, and a record of the program with these classes."""

    def __init__(self, rows, record):
        self.rows = rows
        self.record = record


class ByLaterClass(ByKind):
    """As ByKind, but a kind of more than one class has a name, too: that of a class that is made later."""

    def __init__(self, classes):
        super().__init__(classes)
        kinds = [kind for kind in classes.kinds() if len(kind) > 1]
        free = [word for word in _later_words() if word not in classes]
        self._names = {kind: word for kind, word in zip(kinds, free)}

    def name_of(self, view):
        """The class of the program with this kind, or else the later class."""
        return self._names[view] if view in self._names else super().name_of(view)

    def rows_in(self, record):
        """The rows of the later classes that a record names."""
        named = {}
        for case, choices in record.rows:
            for thing in (case[2],) + choices:
                named[thing] = True
        return tuple([(self._names[kind],) + kind for kind in self._names if self._names[kind] in named])


def client(program, case, kind):
    """A client that shows that an error of this kind leaves the case."""
    level = ByLaterClass(program.classes)
    solver = solved(program, level, Certain(level), (case,))
    if kind == "returns" or kind not in list(solver.outcomes_at(case)):
        raise Barred(kind)
    record = written(solver, 0, case, kind)
    return Client(level.rows_in(record), record)


def holds_client(program, case, kind, client):
    """Whether a client shows that an error of this kind leaves the case."""
    rows = client.rows
    try:
        whole = program.with_classes(*rows)
        played = play(whole, client.record)
    except LeaveError:
        return False
    function, given, handled = client.record.rows[-1][0]
    if (function, given) != case[:2] or _kind_of(whole, handled, program) != case[2]:
        return False
    outcome = played.outcomes[-1]
    return outcome != "returns" and _kind_of(whole, outcome, program) == kind


def _kind_of(whole, name, program):
    """The kind of a class of the whole program with regard to the classes of the program; None for None."""
    return None if name is None else whole.classes.kind_of(name, program.classes)


def _later_words():
    """Words for classes that are made later, more than there are kinds and classes."""
    return ["later" + one + two for one in LETTERS[:3] for two in LETTERS]
