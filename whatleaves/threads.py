"""Makes a grammar of the fronts of all errors that leave calls."""

from whatleaves.grammar import Grammar
from whatleaves.strands import Strands, class_case, has_front, solved_by_strands, strand_case
from whatleaves.weaver import Weaver


class ByNode(Strands):
    """Keeps a form of a grammar, or a tuple of forms where several errors are taken together."""

    def __init__(self, classes, grammar):
        super().__init__(classes)
        self.grammar = grammar

    def letter(self, name):
        """One class."""
        return self.grammar.letter(name)

    def together(self, ahead, behind):
        """Some classes and some others behind them."""
        return (ahead, behind)

    def either(self, one, other):
        """The forms of one or the other."""
        if len(other) == 1:
            return one if other[0] in one else one + other
        return one + tuple([form for form in other if form not in one])

    def gathered(self, forms):
        """One form for a tuple of forms."""
        return self.grammar.choice(forms)

    def spread(self, form):
        """The tuple of a form."""
        return (form,)


class Threads(Weaver):
    """Goes through the blocks of all cases of a StrandSolver, and makes the grammar of the fronts."""

    def __init__(self, solver):
        self.solver = solver
        self.grammar = Grammar()
        super().__init__(solver.program, ByNode(solver.program.classes, self.grammar))
        # All cases, with None or a class as handled.
        self.cases = [class_case(case) for case in solver.roots]
        # For each node of the fronts in a case: the case, and the finish in which the errors leave.
        self.owners = {}
        self._entries = {}
        self._woven = {}

    def weave(self, case):
        """Settle the nodes of the fronts in a case, with None or a class as handled."""
        if case not in self._woven:
            self._woven[case] = True
            entry = self.entry(case)
            finishes = self.root(strand_case(case)).finishes
            for finish in finishes:
                if has_front(finish):
                    self.grammar.settle(entry[finish][0], finishes[finish])

    def entry(self, case):
        """How calls of a case can finish, with the node of the front where there is one."""
        if case not in self._entries:
            pairs = self.solver.pairs_in(self.solver.root(strand_case(case)).finishes)
            finishes = [("leaves", finish[1][:3]) if has_front(finish) else finish for finish, _ in pairs]
            self._entries[case] = {finish: self._node_for(case, finish) for finish in finishes}
        return self._entries[case]

    def enters(self, place):
        """Find out what the block of a new place can finish with, each with one node."""
        super().enters(place)
        found = place.finishes
        place.finishes = {finish: self._settled(finish, found[finish]) for finish in found}

    def _node_for(self, case, finish):
        if not has_front(finish):
            return True
        node = self.grammar.later()
        self.owners[node] = (case, finish)
        return (node,)

    def _settled(self, finish, forms):
        return (self.grammar.choice(forms),) if has_front(finish) else forms


def threads_of(program, case):
    """The Threads of all cases that come about in calls of a case, all of them woven."""
    threads = Threads(solved_by_strands(program, case))
    for one in threads.cases:
        threads.weave(one)
    return threads
