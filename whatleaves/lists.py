"""Lists of the least sets of acts that outcomes take, and tables of such lists."""

from whatleaves.families import families_of
from whatleaves.levels import ByClass, Level
from whatleaves.looks import TableScan
from whatleaves.orders import in_order
from whatleaves.scans import Scan
from whatleaves.solver import solved


def list_look(program, acts, case, lists):
    """Look once at the block of the case's function; a dict from outcomes to Demands."""
    families = families_of(program, acts)
    return _demanded(families, ListScan(program, families, lists).outcomes_at(case))


def covered(program, acts, lists):
    """Whether looks at the cases of a table of lists find nothing that it lacks."""
    families = families_of(program, acts)
    scan = ListScan(program, families, lists)
    for case in lists:
        found = scan.outcomes_at(case)
        if not all([_is_met(families, lists[case], outcome, found[outcome]) for outcome in found]):
            return False
    return all([case in lists for case in _cases_of(program, acts, lists)])


def lists_of(program, acts, case):
    """The table of lists of all cases that come about in calls of this case."""
    families = families_of(program, acts)
    return table_of_lists(solve_lists(program, families, (case,)))


def demands(program, acts, case, outcome):
    """The Demands of the least sets of these acts that let the outcome come about."""
    return demands_at(solve_lists(program, families_of(program, acts), (case,)), case, outcome)


def solve_lists(program, families, cases):
    """A Solver that has found out about these cases for all sets of acts at once."""
    return solved(program, Level(program.classes), families, cases)


def table_of_lists(solver):
    """The table of lists of all cases that a solver with families has met."""
    return {case: _demanded(solver.weights, solver.outcomes_at(case)) for case in solver.roots}


def demands_at(solver, case, outcome):
    """The Demands that a solver with families has found for an outcome of a case."""
    return solver.weights.demands_of(solver.outcomes_at(case).get(outcome, 0))


class ListScan(Scan):
    """Looks at blocks for all sets of acts at once, where calls of functions have the outcomes of a table of lists."""

    def __init__(self, program, families, lists):
        super().__init__(program, Level(program.classes), families)
        self.lists = lists

    def entry(self, case):
        """The outcomes of the table for this case, each with the sets of acts that meet what it demands; 0 for none."""
        entry = self.lists.get(case, {})
        return {outcome: self.weights.family_of(entry[outcome]) for outcome in entry}


def _demanded(families, found):
    """A dict from outcomes to Demands, made from one to families."""
    return {outcome: families.demands_of(found[outcome]) for outcome in in_order(list(found))}


def _is_met(families, entry, outcome, family):
    """Whether each set of the family meets the Demands of the entry for the outcome."""
    return outcome in entry and family & families.family_of(entry[outcome]) == family


def _cases_of(program, acts, lists):
    """The cases of the looks at the cases of a table of lists, for callbacks that do all acts."""
    table = {case: _possible(lists[case]) for case in lists}
    scan = TableScan(program, ByClass(program.classes, acts), table)
    for case in lists:
        scan.root(case)
    return scan.cases


def _possible(entry):
    return [outcome for outcome in entry if len(entry[outcome]) > 0]
