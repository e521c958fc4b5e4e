"""Families of sets of acts: each is an integer with one bit for each set of some acts.

With a set a family has each set of these acts that contains it. So it is told by its least sets, and two families that
are not empty have the set of all acts in common.
"""

from whatleaves.acts import Acts, acts_over
from whatleaves.demands import MOST_ACTS, Demands
from whatleaves.errors import TooMany


class Families:
    """Families over at most eight acts; bit m of a family is the set of those acts k for which m has bit k."""

    def __init__(self, acts):
        self.acts = acts
        # How many sets there are, and the family of all of them.
        self.many = 1 << len(acts)
        self.whole = (1 << self.many) - 1
        self._with = {row: _family_with(k, self.many) for k, row in enumerate(acts.rows)}
        self._demands = {}

    def done(self, callback, handled):
        """The outcomes of a call of this callback while handled is handled, each with the sets that let it be."""
        rows = [row for row in self.acts.rows if row[:2] == (callback, handled)]
        return {row[2]: self._with[row] for row in rows}

    def family_of(self, demands):
        """The sets that meet a Demands; a set of it with another act is never met."""
        family = 0
        for one in demands.sets:
            family = family | self._family_around(one)
        return family

    def demands_of(self, family):
        """The Demands of the least sets of a family."""
        if family not in self._demands:
            sets = [self.set_of(m) for m in range(self.many) if self._is_least(family, m)]
            self._demands[family] = Demands.made(sets)
        return self._demands[family]

    def set_of(self, m):
        """Set m."""
        rows = [row for k, row in enumerate(self.acts.rows) if m >> k & 1 == 1]
        return Acts(*rows)

    def number_of(self, one):
        """The number m of a set of these acts."""
        numbers = [1 << k for k, row in enumerate(self.acts.rows) if row in one]
        return sum(numbers)

    def _family_around(self, one):
        """The sets that contain this one."""
        family = self.whole
        for row in one.rows:
            family = family & self._with.get(row, 0)
        return family

    def _is_least(self, family, m):
        if family >> m & 1 == 0:
            return False
        smaller = [m - (1 << k) for k in range(len(self.acts)) if m >> k & 1 == 1]
        return not any([family >> other & 1 == 1 for other in smaller])


def own_acts(program, acts):
    """The acts whose words are classes of the program; the others count for the bound, too."""
    if len(acts) > MOST_ACTS:
        raise TooMany("acts", MOST_ACTS)
    return acts_over(program.classes, acts)


def families_of(program, acts):
    """The families over the acts whose words are classes of the program."""
    return Families(own_acts(program, acts))


def _family_with(k, many):
    """The sets that have act k."""
    family = 0
    for m in range(many):
        if m >> k & 1 == 1:
            family = family | 1 << m
    return family
