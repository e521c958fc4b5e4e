"""Finds out how calls can finish from one another: the least table, and when what of it came about."""

from whatleaves.scans import Scan


class Solver(Scan):
    """Goes through blocks where calls can finish as the blocks that they call.

    A place is gone through again when a place that it uses can finish with more, but behind all that wait already, so
    that it meets many changes at once. The times at which places grow are numbered: what comes about at a time follows
    from what came about before.
    """

    def __init__(self, program, level, weights):
        super().__init__(program, level, weights)
        self.roots = {}
        self._time = 0
        self._numbered = []
        self._queue = []
        self._queued = {}

    def solve(self, cases):
        """Find out how calls of these cases, and all calls that come about in them, can finish."""
        for case in cases:
            self.root(case)
        while len(self._queue) > 0:
            numbers = list(self._queue)
            self._queue = []
            for number in numbers:
                del self._queued[number]
                self._grow(self._numbered[number])

    def root(self, case):
        """The place of a case."""
        if case not in self.roots:
            self.roots[case] = super().root(case)
        return self.roots[case]

    def enters(self, place):
        """Find out how a new place can finish; for a root only later, since calls may go deep."""
        self._numbered.append(place)
        if place.is_root():
            self._wait(place.number)
        else:
            self._grow(place)

    def inner(self, place, block, handled, bound):
        """What a block in the block of a place can finish with, as far as it is known."""
        used = self.place_for(place.scope, block, handled, bound)
        used.users[place.number] = True
        return used.finishes

    def root_called(self, case):
        """The place of a call that has this case, as it is seen from where it is called."""
        return self.root(case)

    def seen(self, finish, handled, bound):
        """What finishes so at its place, as it is seen from where it is begun while handled and bound are so."""
        return finish

    def called(self, place, case):
        """What a call in a place can finish with that has this case, as far as it is known."""
        used = self.root_called(case)
        used.users[place.number] = True
        return used.finishes

    def time_of(self, place, finish, member):
        """The time since which the block of a place can finish so for a member of the families, or None."""
        shift = self.fields.shift_of(finish) + member
        for time, finishes in place.grown:
            if finishes >> shift & 1 == 1:
                return time
        return None

    def _grow(self, place):
        found = self.finishes_at(place)
        if found == place.finishes:
            return
        self._time = self._time + 1
        place.grown.append((self._time, found))
        place.finishes = found
        for number in place.users:
            self._wait(number)

    def _wait(self, number):
        if number not in self._queued:
            self._queued[number] = True
            self._queue.append(number)


def solved(program, level, weights, cases):
    """A Solver that has found out about these cases."""
    solver = Solver(program, level, weights)
    solver.solve(cases)
    return solver
