"""Whether two programs are alike for all callbacks that do nothing but given acts."""

from whatleaves.demands import in_order_of_sets
from whatleaves.errors import Unlike
from whatleaves.families import families_of
from whatleaves.lists import solve_lists


def parted(one, other, acts):
    """None, or (case, outcome, acts) with acts that let the outcome come about in just one of the programs."""
    families = families_of(one, acts)
    if one.classes.rows != other.classes.rows:
        raise Unlike("classes")
    if _heads(one) != _heads(other):
        raise Unlike("functions")
    differing = _differing(one, other, families)
    together = 0
    for _, _, family in differing:
        together = together | family
    sets = [families.set_of(m) for m in range(families.many) if together >> m & 1 == 1]
    if len(sets) == 0:
        return None
    first = in_order_of_sets(sets)[0]
    m = families.number_of(first)
    return [(case, outcome, first) for case, outcome, family in differing if family >> m & 1 == 1][0]


def _heads(program):
    return [(function.name, function.callbacks) for function in program.functions]


def _differing(one, other, families):
    """Each case and outcome, in order, with the sets of acts that let it come about in just one of the programs."""
    outcomes = ("returns",) + one.classes.names
    handled = (None,) + one.classes.names
    cases = [(function.name, function.callbacks, view) for function in one.functions for view in handled]
    solvers = [solve_lists(program, families, cases) for program in (one, other)]
    found = []
    for case in cases:
        here, there = [solver.outcomes_at(case) for solver in solvers]
        found.extend([(case, outcome, here.get(outcome, 0) ^ there.get(outcome, 0)) for outcome in outcomes])
    return found
