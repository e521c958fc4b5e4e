"""Finds clauses that are never begun."""

from whatleaves.later import ByKind
from whatleaves.scans import Certain
from whatleaves.solver import Solver


def idle(program):
    """The clauses (function, i, c) that are never begun, whatever the callbacks, later classes and calls are."""
    handled = (None,) + program.classes.kinds()
    solver = ClauseSolver(program)
    solver.solve([program.case(name, handled=kind) for name in program.names for kind in handled])
    return tuple([clause for clause in _clauses(program) if clause not in solver.clauses])


class ClauseSolver(Solver):
    """A Solver by kinds that keeps the clauses whose blocks are begun."""

    def __init__(self, program):
        level = ByKind(program.classes)
        super().__init__(program, level, Certain(level))
        self.clauses = {}

    def begins(self, place, number, c):
        """Take note of a clause."""
        self.clauses[(place.scope.name, number, c)] = True


def _clauses(program):
    """All clauses, in the order of functions."""
    found = []
    for function in program.functions:
        for i, statement in enumerate(function.statements):
            if statement[0] == "try":
                found.extend([(function.name, i, c) for c in range(len(statement[2]))])
    return found
