"""The orders of outcomes and of cases."""


def in_order(outcomes):
    """The ordered tuple of a list of different outcomes: returns stands first."""
    return tuple(sorted(outcomes, key=_outcome_order))


def cases_in_order(cases):
    """The ordered tuple of a list of different cases: those in which nothing is handled stand first."""
    return tuple(sorted(cases, key=_case_order))


def _outcome_order(outcome):
    return (outcome != "returns", outcome)


def _case_order(case):
    function, given, handled = case
    return (function, given, handled is not None, handled)
