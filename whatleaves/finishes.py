"""What a block or a statement finishes with: (how, error), where error is None unless one leaves.

In a run the error is an error. Where all runs are followed at once, its view stands in its place.
"""

ENDS = ("ends", None)
RETURNS = ("returns", None)
BREAKS = ("breaks", None)


def finish_of_call(outcome):
    """What a call with this outcome finishes with."""
    return ENDS if outcome == "returns" else ("leaves", outcome)


def outcome_of_call(finish):
    """The outcome of a call that finishes in this way."""
    return "returns" if finish == ENDS else finish[1]


def handled_behind(finish, handled):
    """What is handled in the last block of a try, or while a with is left, where handled was so at its beginning."""
    return finish[1] if finish[0] == "leaves" else handled
