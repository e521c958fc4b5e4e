"""Tables: the outcomes of cases."""

from whatleaves.levels import ByClass
from whatleaves.looks import TableScan
from whatleaves.orders import in_order
from whatleaves.scans import Certain
from whatleaves.solver import solved


def closed(program, level, table):
    """Whether looks at the cases of a table find neither outcomes nor cases that it lacks."""
    scan = TableScan(program, level, table)
    for case in table:
        if not all([outcome in table[case] for outcome in scan.outcomes_at(case)]):
            return False
    return all([case in table for case in scan.cases])


def table_of(program, level, case):
    """The least table that contains the case and is closed."""
    solver = solved(program, level, Certain(level), (case,))
    return {one: in_order(list(solver.outcomes_at(one))) for one in solver.roots}


def outcomes(program, level, case):
    """The ordered tuple of the outcomes of a case."""
    solver = solved(program, level, Certain(level), (case,))
    return in_order(list(solver.outcomes_at(case)))


def can(program, acts, function, *given, handled=None):
    """The outcomes by class of a call, where outside callbacks do just these acts."""
    case = program.case(function, *given, handled=handled)
    return outcomes(program, ByClass(program.classes, acts), case)
