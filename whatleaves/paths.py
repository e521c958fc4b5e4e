"""Records that show that outcomes can come about."""

from whatleaves.errors import Barred
from whatleaves.routes import written
from whatleaves.scans import Certain
from whatleaves.solver import solved


def record_of(program, level, case, outcome):
    """A record whose last row has this case and this outcome, and whose acts the level lets outside callbacks do."""
    solver = solved(program, level, Certain(level), (case,))
    if outcome not in list(solver.outcomes_at(case)):
        raise Barred(outcome)
    return written(solver, 0, case, outcome)
