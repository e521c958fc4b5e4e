"""Makes a grammar of whole trails: of the errors that leave calls, and of those that are handled at calls."""

from whatleaves.strands import NOTHING, class_case, has_front
from whatleaves.threads import Threads
from whatleaves.uses import HANDLED


class Histories(Threads):
    """Threads that also keep what the bases stand for, in all calls that come about together.

    Nothing is handled in the first one of these calls, so that there are whole trails for all bases.
    """

    def __init__(self, solver):
        super().__init__(solver)
        # For each base at a place, or at a case: its node and the forms of its trails.
        self._nodes = {}
        self._forms = {}

    def whole_trails(self, case):
        """The forms of the trails of the error that is handled in a case and of those that leave it."""
        handled = [] if case[2] is None else [self._node_of((case, HANDLED))]
        return handled + self.trails_leaving(case)

    def trails_leaving(self, case):
        """The forms of the trails of the errors that leave a case, but for the one that is handled there."""
        forms = []
        entry = self.entry(case)
        for finish in entry:
            if has_front(finish):
                node = entry[finish][0]
                is_whole = finish[1][1] == NOTHING
                forms.append(node if is_whole else (node, self._node_of((case, HANDLED))))
        return forms

    def settle_bases(self):
        """Settle the nodes of all bases, as far as the cases are woven."""
        for key in self._forms:
            self.grammar.settle(self._nodes[key], tuple(list(self._forms[key])))

    def passes(self, place, used, handled, bound):
        """Take note of what the bases at an inner place stand for."""
        if handled is not None:
            self._add(place, (used.number, HANDLED), handled)
        for n in bound:
            self._add(place, (used.number, n), bound[n])

    def called(self, place, case):
        """What a call in a place can finish with that has this case; take note of what is handled there."""
        if case[2] is not None:
            self._add(place, (class_case(case), HANDLED), case[2])
        return super().called(place, case)

    def _add(self, place, key, view):
        """Take note that a base can stand for what has this view from a place."""
        _, base, bare, more = view
        if base == NOTHING:
            form = more
        else:
            start = class_case(place.root_case()) if place.is_root() else place.number
            form = self._node_of((start, base)) if bare else (more, self._node_of((start, base)))
        self._node_of(key)
        self._forms[key][form] = True

    def _node_of(self, key):
        if key not in self._nodes:
            self._nodes[key] = self.grammar.later()
            self._forms[key] = {}
        return self._nodes[key]
