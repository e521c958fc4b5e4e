"""Finds the fewest wraps behind which nothing but allowed errors leaves."""

from whatleaves.later import ByKind
from whatleaves.scans import Certain
from whatleaves.solver import Solver
from whatleaves.wraps import wrapped


def closing(program, doors, allowed, made, places):
    """(wraps, leaks): the first set of places that closes the doors, or None, and a leak for each set ahead of it."""
    level = ByKind(program.classes)
    leaks = []
    for names in _sets(places):
        leak = _leak(wrapped(program, names, allowed, made), level, doors, allowed)
        if leak is None:
            return names, tuple(leaks)
        leaks.append((names,) + leak)
    return None, tuple(leaks)


def _sets(places):
    """All sets of places: those with fewer places stand first."""
    indexes = [()]
    for k in range(len(places)):
        indexes = indexes + [one + (k,) for one in indexes]
    return [tuple([places[i] for i in one]) for one in sorted(indexes, key=_set_order)]


def _set_order(one):
    return (len(one), one)


def _leak(program, level, doors, allowed):
    """The first door through which a kind leaves that is not allowed, with the first such kind, or None."""
    solver = Solver(program, level, Certain(level))
    for door in doors:
        case = program.case(door)
        solver.solve((case,))
        kinds = [outcome for outcome in solver.outcomes_at(case) if outcome != "returns"]
        leaking = sorted([kind for kind in kinds if not program.classes.meets(kind, allowed)])
        if len(leaking) > 0:
            return door, leaking[0]
    return None
