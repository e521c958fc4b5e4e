"""Looks at the block of a function once, where a table says what the calls of functions do."""

from whatleaves.orders import cases_in_order, in_order
from whatleaves.scans import Certain, Scan


class Look:
    """What comes about in a look: outcomes, the cases of calls of functions, and the clauses whose blocks are begun."""

    def __init__(self, outcomes, cases, clauses):
        self.outcomes = outcomes
        self.cases = cases
        self.clauses = clauses


def look(program, level, case, table):
    """Look once at the block of the case's function."""
    scan = TableScan(program, level, table)
    found = scan.outcomes_at(case)
    return Look(in_order(list(found)), cases_in_order(list(scan.cases)), tuple(sorted(list(scan.clauses))))


class TableScan(Scan):
    """Looks at blocks, where calls of functions have the outcomes of a table; keeps cases and clauses of all looks."""

    def __init__(self, program, level, table):
        super().__init__(program, level, Certain(level))
        self.table = table
        self.cases = {}
        self.clauses = {}

    def entry(self, case):
        """The outcomes of the table for this case; none if it has not the case."""
        return {outcome: 1 for outcome in self.table.get(case, ())}

    def called(self, place, case):
        """What a call with this case can finish with."""
        self.cases[case] = True
        return super().called(place, case)

    def begins(self, place, number, c):
        """Take note of a clause."""
        self.clauses[(number, c)] = True
