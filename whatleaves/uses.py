"""Which errors from around a statement are looked at in it: the one that is handled there, and bound ones.

An error is written as HANDLED or as its bound name. If it only leaves as it is, or becomes a cause, then it does not
matter in the statement of which class it is.
"""

# No bound name is this word.
HANDLED = "handling"


class Uses:
    """The errors whose classes matter in a statement or block, and those that may leave it as they are."""

    def __init__(self, examined, passed):
        self.examined = examined
        self.passed = passed


def uses_of(statement, blocks):
    """The Uses of a statement; blocks are those in it, each with its uses."""
    word = statement[0]
    if word == "again":
        return Uses([], [statement[1] if len(statement) == 2 else HANDLED])
    if word == "call":
        return Uses([HANDLED], [])
    both = uses_together([block.uses for block in blocks])
    if word == "with":
        return Uses([HANDLED] + both.examined + both.passed, [])
    return _uses_of_try(statement, blocks) if word == "try" else both


def uses_together(uses):
    """The Uses of several things, in each of which the errors from around all are the same."""
    return Uses([base for one in uses for base in one.examined], [base for one in uses for base in one.passed])


def _uses_of_try(statement, blocks):
    _, _, clauses, other, last = statement
    first = blocks[0].uses
    inner = [_without(block.uses, (HANDLED, clause[1])) for block, clause in zip(blocks[1:], clauses)]
    if len(other) > 0:
        inner.append(blocks[1 + len(clauses)].uses)
    found = uses_together([Uses(first.examined + first.passed, [])] + inner)
    if len(last) == 0:
        return found
    return uses_together([Uses(found.examined + found.passed, []), blocks[-1].uses])


def _without(uses, bases):
    """The Uses of a block in which these stand for other errors."""
    examined = [base for base in uses.examined if base not in bases]
    return Uses(examined, [base for base in uses.passed if base not in bases])
