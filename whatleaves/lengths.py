"""Tables of lengths: how long the fronts of errors can be."""

from whatleaves.finishes import ENDS
from whatleaves.grammar import Sizes
from whatleaves.strands import NOTHING, Strands, has_front, strand_case
from whatleaves.threads import threads_of
from whatleaves.uses import HANDLED
from whatleaves.weaver import Weaver


def length_look(program, case, table):
    """Look once at the block of the case's function; a dict from what comes about to the greatest lengths."""
    return LengthLooker(program, table).lengths_at(case)


def length_closed(program, table):
    """Whether looks at the cases of a table of lengths find nothing that it lacks."""
    looker = LengthLooker(program, table)
    for case in table:
        found = looker.lengths_at(case)
        if not all([_is_allowed(table[case], key, found[key]) for key in found]):
            return False
    return all([case in table for case in looker.cases])


def lengths_of(program, case):
    """The least table of lengths of all cases that come about in calls of this case."""
    threads = threads_of(program, case)
    sizes = Sizes(threads.grammar)
    table = {}
    for one in threads.cases:
        entry = threads.entry(one)
        lengths = {finish: sizes.greatest[entry[finish][0]] if has_front(finish) else 0 for finish in entry}
        table[one] = _by_key(lengths)
    return table


def longest(program, case):
    """The greatest length of a trail that leaves the case, None if there is no greatest, 0 if no error leaves."""
    return _greatest(list(lengths_of(program, case)[case].values()) + [0])


class ByLength(Strands):
    """Keeps the greatest number of classes, or None if there is no greatest."""

    def letter(self, name):
        """One class."""
        return 1

    def together(self, ahead, behind):
        """Some classes and some others behind them."""
        return None if ahead is None or behind is None else ahead + behind

    def either(self, one, other):
        """The classes of one or the other."""
        return _greatest((one, other))

    def gathered(self, length):
        """The same length: it is kept in one way everywhere."""
        return length

    def spread(self, length):
        """The same length."""
        return length


class LengthLooker(Weaver):
    """Looks at blocks, where calls of functions have the outcomes and lengths of a table; keeps the cases of calls."""

    def __init__(self, program, table):
        super().__init__(program, ByLength(program.classes))
        self.table = table
        self.cases = {}

    def entry(self, case):
        """How calls of a case can finish, with the greatest lengths of the fronts."""
        if case not in self.cases:
            entry = self.table.get(case, {})
            lengths = {key: True if key == "returns" else entry[key] for key in entry}
            self.cases[case] = {_finish_of(key, case[2]): lengths[key] for key in lengths}
        return self.cases[case]

    def lengths_at(self, case):
        """What comes about in a look at a case, with the greatest lengths."""
        finishes = self.root(strand_case(case)).finishes
        return _by_key({finish: finishes[finish] if has_front(finish) else 0 for finish in finishes})


def _finish_of(key, handled):
    """The finish of a call that is written in a table of lengths with this key."""
    if key == "returns":
        return ENDS
    name, is_open = key
    return ("leaves", (name, HANDLED if is_open and handled is not None else NOTHING, False))


def _by_key(lengths):
    """A dict as in tables of lengths, made from one from finishes to lengths."""
    entry = {}
    for finish in lengths:
        key = "returns" if finish == ENDS else (finish[1][0], finish[1][1] == HANDLED)
        entry[key] = _greatest((entry.get(key, 0), lengths[finish]))
    return entry


def _greatest(lengths):
    """The greatest one of some lengths; None, where there is no greatest length, is above all others."""
    return None if any([length is None for length in lengths]) else max(lengths)


def _is_allowed(entry, key, length):
    """Whether an entry says no less of a key than a look that found this length."""
    if key not in entry:
        return False
    return entry[key] is None or (length is not None and length <= entry[key])
