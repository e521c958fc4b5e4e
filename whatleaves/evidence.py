"""Evidence for lists of least sets of acts."""

from whatleaves.errors import NoRecord
from whatleaves.families import families_of, own_acts
from whatleaves.lists import covered, demands_at, solve_lists, table_of_lists
from whatleaves.plays import play
from whatleaves.routes import written


def evidence(program, acts, case, outcome):
    """A record for each least set of these acts that lets the outcome come about, and the table of lists."""
    families = families_of(program, acts)
    solver = solve_lists(program, families, (case,))
    least = demands_at(solver, case, outcome).sets
    # With fewer acts than a least set has there is no such run, so that the acts of a record are just those of its set.
    records = [written(solver, families.number_of(one), case, outcome) for one in least]
    return tuple(records), table_of_lists(solver)


def holds_list(program, acts, case, outcome, records, lists):
    """Whether the records and the table of lists show that its list for the case and the outcome is right."""
    if not covered(program, acts, lists) or case not in lists:
        return False
    sets = lists[case][outcome].sets if outcome in lists[case] else ()
    if len(records) != len(sets):
        return False
    own = own_acts(program, acts)
    return all([one.within(own) and _shows(program, record, case, outcome, one) for one, record in zip(sets, records)])


def _shows(program, record, case, outcome, acts):
    """Whether the last row of a record is a run of the case with this outcome and just these acts."""
    try:
        played = play(program, record)
    except NoRecord:
        return False
    return record.rows[-1][0] == case and played.outcomes[-1] == outcome and played.acts == acts
