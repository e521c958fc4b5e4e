"""Finds choices of runs in which the front of an error has that of another call in it."""

from whatleaves.moves import finishes_of_block
from whatleaves.routes import Routes


class MarkedRoutes(Routes):
    """Goes through the blocks of a case of a StrandSolver, where calls of a target may be marked.

    The target is a root, with the finish of its calls that counts. Bundles and worths are those of Routes, but a way
    has no inner steps: it goes through inner blocks itself.
    """

    def __init__(self, solver, target, finish):
        super().__init__(solver, 0, None)
        self.target = target
        self.marked = with_mark(finish, 1)
        self._found = {}

    def way_to(self, root, finish):
        """A way to a finish with a front that has that of a marked call in it, and more than that if it can have."""
        found = self._ways_at(root)
        most = with_mark(finish, 2)
        return found[most] if most in found else found[with_mark(finish, 1)]

    def inner(self, place, block, handled, bound):
        """How a block in the block of a place can finish."""
        return self.all_seen(self._ways_at(self.solver.place_for(place.scope, block, handled, bound)), handled, bound)

    def called(self, place, case):
        """How a call in a place can finish that has this case."""
        root = self.solver.root_called(case)
        finishes = [finish for finish, _ in self.solver.pairs_in(root.finishes)]
        if root.number == self.target.number:
            finishes.append(self.marked)
        return self.all_seen({finish: (("row", root, finish),) for finish in finishes}, case[2], {})

    def _ways_at(self, place):
        if place.number not in self._found:
            self._found[place.number] = finishes_of_block(self, place, place.block)
        return self._found[place.number]


def with_mark(finish, mark):
    """A finish in which an error leaves whose front is marked so."""
    return ("leaves", finish[1][:3] + (mark,))
