"""Finds the choices of runs, and writes records of them."""

from whatleaves.finishes import RETURNS, finish_of_call
from whatleaves.lookers import Looker
from whatleaves.moves import finishes_of_block
from whatleaves.records import Record


class Routes(Looker):
    """Goes once more through a block that a solver went through, with what came about for a member before a time.

    A bundle is a dict. A worth is one way to a finish: a tuple of ("take", choice), of ("inner", place, finish) for a
    block with a place of its own that finishes so, and of ("row", place, finish) for a call of the case of this place.
    """

    def __init__(self, solver, member, before):
        super().__init__(solver.program, solver.level, {}, ())
        self.solver = solver
        self.member = member
        self.before = before

    def inner(self, place, block, handled, bound):
        """How a block in the block of a place can finish."""
        ways = self._ways("inner", self.solver.place_for(place.scope, block, handled, bound))
        return self.all_seen(ways, handled, bound)

    def called(self, place, case):
        """How a call in a place can finish that has this case."""
        return self.all_seen(self._ways("row", self.solver.root_called(case)), case[2], {})

    def all_seen(self, bundle, handled, bound):
        """What is in a bundle, as it is seen from where handled and bound have these views."""
        return {self.solver.seen(finish, handled, bound): bundle[finish] for finish in bundle}

    def outside(self, callback, handled):
        """How a call of an outside callback can finish."""
        worths = self.solver.weights.done(callback, handled)
        return {finish_of_call(outcome): self._taking(outcome) for outcome in worths if self._has(worths[outcome])}

    def chosen(self, k):
        """The worth of choice k."""
        return (("take", k),)

    def single(self, finish, worth):
        """The bundle of one finish."""
        return {finish: worth}

    def joined(self, one, other):
        """What is in one or the other of two bundles; one way to a finish is enough."""
        both = {finish: one[finish] for finish in one}
        for finish in other:
            both.setdefault(finish, other[finish])
        return both

    def put_behind(self, worth, bundle):
        """A bundle behind something of this worth."""
        return {finish: worth + bundle[finish] for finish in bundle}

    def has(self, bundle, finish):
        """Whether the finish is in the bundle."""
        return finish in bundle

    def worth_of(self, bundle, finish):
        """The worth of a finish in a bundle."""
        return bundle[finish]

    def without(self, bundle, finish):
        """The bundle without a finish."""
        return {other: bundle[other] for other in bundle if other != finish}

    def pairs_in(self, bundle):
        """Each finish in a bundle with its worth."""
        return list(bundle.items())

    def _ways(self, word, place):
        found = {}
        for finish, worth in self.solver.pairs_in(place.finishes):
            if self._has(worth) and self.solver.time_of(place, finish, self.member) < self.before:
                found[finish] = ((word, place, finish),)
        return found

    def _taking(self, outcome):
        return (("take", outcome if outcome == "returns" else self.level.name_of(outcome)),)

    def _has(self, family):
        return family >> self.member & 1 == 1


class Row:
    """A row of a record that is to be written: the call of a place that finishes so, and its steps."""

    def __init__(self, solver, member, place, finish):
        self.place = place
        self.time = solver.time_of(place, finish, member)
        self.key = (place.number, finish)
        self.steps = _steps_to(solver, member, place, finish)

    def told_with(self, indexes, level):
        """The row as it stands in a record; indexes is a dict from the keys of rows to their indexes."""
        return (told_case(self.place, level), choices_of(self.steps, indexes))


def written(solver, member, case, outcome):
    """A record whose last row is a run of this case with this outcome that a member of families allows."""
    rows = needed_rows(solver, member, [("row", solver.root(case), finish_of_call(outcome))])
    indexes = indexes_of(rows)
    return Record.made([row.told_with(indexes, solver.level) for row in rows])


def needed_rows(solver, member, steps):
    """Rows for these steps, and for all that these rows use, each behind what it uses."""
    found = {}
    waiting = list(steps)
    while len(waiting) > 0:
        step = waiting.pop()
        if key_of(step) not in found:
            row = Row(solver, member, step[1], step[2])
            found[row.key] = row
            waiting.extend([one for one in row.steps if one[0] == "row"])
    # What a row uses came about earlier.
    return sorted(list(found.values()), key=_time_of_row)


def indexes_of(rows):
    """The index of each row, by its key."""
    return {row.key: k for k, row in enumerate(rows)}


def choices_of(steps, indexes):
    """The choices in steps; indexes is a dict from the keys of rows to their indexes."""
    return tuple([step[1] if step[0] == "take" else (indexes[key_of(step)],) for step in steps])


def key_of(step):
    """The key of the row that a step needs."""
    return (step[1].number, step[2])


def told_case(place, level):
    """The case of a root, with a class in the place of a view."""
    function, given, handled = place.root_case()
    return (function, given, None if handled is None else level.name_of(handled))


def _time_of_row(row):
    return row.time


def _steps_to(solver, member, place, finish):
    """The choices and rows of a run of a block, in their order."""
    routes = Routes(solver, member, solver.time_of(place, finish, member))
    found = finishes_of_block(routes, place, place.block)
    # At a root it was not kept whether the block ends or returns.
    way = found[RETURNS] if finish not in found else found[finish]
    steps = []
    for step in way:
        if step[0] == "inner":
            steps.extend(_steps_to(solver, member, step[1], step[2]))
        else:
            steps.append(step)
    return steps
