"""Errors as they are seen from a place: by their classes, and by what their fronts rest on."""

from whatleaves.levels import Level
from whatleaves.scans import Certain
from whatleaves.solver import Solver
from whatleaves.uses import HANDLED

# The bases that a front can rest on are this one, HANDLED, and the names that are bound at the place.
NOTHING = ""


class Strands(Level):
    """The level at which the view of an error, from a place, is (class, base, bare, more).

    The front of the error is some classes and then the front of the error that is the base. Bare says that there are no
    such classes: then the error is the base itself. More is what is kept of these classes, which differs below; here it
    is a mark: 1 for the front of one certain call, 2 for more than this front, 0 if this front is no part of them.
    """

    def view(self, name, cause=None):
        """The view of a new error of this class whose cause has the view cause."""
        more = self.letter(name)
        return (name, NOTHING, False, more) if cause is None else self.put_ahead(name, more, cause)

    def taken(self, view, names):
        """Whether the class of an error with this view is within one of the names."""
        return super().taken(view[0], names)

    def name_of(self, view):
        """The class of an error with this view."""
        return view[0]

    def letter(self, name):
        """What is kept of one class."""
        return 0

    def together(self, ahead, behind):
        """What is kept of some classes and some others behind them."""
        return 2 if ahead + behind > 0 else 0

    def put_ahead(self, name, ahead, error):
        """The view of an error of this class whose front is some classes and then the front of another error."""
        _, base, bare, behind = error
        return (name, base, False, ahead if bare else self.together(ahead, behind))

    def seen(self, finish, handled, bound):
        """What finishes so where handled and bound are as named, as it is seen from where they have these views."""
        if finish[0] != "leaves" or finish[1][1] == NOTHING:
            return finish
        name, base, bare, more = finish[1]
        error = handled if base == HANDLED else bound[base]
        return ("leaves", error if bare else self.put_ahead(name, more, error))


def as_base(view, base):
    """The view of an error, or None, from a place at which it is this base."""
    return None if view is None else (view[0], base, True, 0)


def own_views(block, handled, bound):
    """What is handled and what is bound, as it is seen in a block that is begun so.

    Where the class of an error does not matter there, the view is written without it, so that all classes are one.
    """
    whole = block.first == 0
    return _own_view(block, handled, HANDLED, whole), {n: _own_view(block, bound[n], n, whole) for n in block.names}


def _own_view(block, view, base, whole):
    is_seen = view is None or whole or base in block.uses.examined
    return as_base(view, base) if is_seen else as_base(("",), base)


def strand_case(case):
    """A case with None or a class as handled, with a view in the place of the class."""
    name, given, handled = case
    return (name, given, None if handled is None else as_base((handled,), HANDLED))


def class_case(case):
    """A case with None or a view as handled, with a class in the place of the view."""
    name, given, handled = case
    return (name, given, None if handled is None else handled[0])


def has_front(finish):
    """Whether an error leaves that is not the base itself, so that there are classes ahead of the base."""
    return finish[0] == "leaves" and not finish[1][2]


class StrandSolver(Solver):
    """A Solver by strands: what a block finishes with is told from its own place, once for all errors of a class."""

    def __init__(self, program):
        level = Strands(program.classes)
        super().__init__(program, level, Certain(level))
        self._translated = {}

    def place_for(self, scope, block, handled, bound):
        """The place of a block in a scope."""
        handled, bound = own_views(block, handled, bound)
        return super().place_for(scope, block, handled, bound)

    def inner(self, place, block, handled, bound):
        """What a block in the block of a place can finish with."""
        views = {n: bound[n] for n in block.names}
        finishes = super().inner(place, block, handled, bound)
        is_own = (handled, views) == own_views(block, handled, views)
        return finishes if is_own else self._seen(finishes, handled, views)

    def called(self, place, case):
        """What a call in a place can finish with that has this case."""
        finishes = super().called(place, case)
        return finishes if case[2] == as_base(case[2], HANDLED) else self._seen(finishes, case[2], {})

    def root_called(self, case):
        """The place of a call that has this case, as it is seen from where it is called."""
        return self.root(strand_case(class_case(case)))

    def seen(self, finish, handled, bound):
        """What finishes so, as it is seen from where handled and bound have these views."""
        return self.level.seen(finish, handled, bound)

    def _seen(self, finishes, handled, bound):
        key = (finishes, handled, tuple(list(bound.items())))
        if key not in self._translated:
            pairs = self.pairs_in(finishes)
            seen = {self.level.seen(finish, handled, bound): worth for finish, worth in pairs}
            self._translated[key] = self.fields.bundle_of(seen)
        return self._translated[key]


def solved_by_strands(program, case):
    """A StrandSolver that has found out about a case with None or a class as handled."""
    solver = StrandSolver(program)
    solver.solve((strand_case(case),))
    return solver
