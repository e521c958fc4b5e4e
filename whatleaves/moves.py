"""What blocks and statements can finish with: bundles of finishes, each with what it is worth.

A looker says what bundles and worths are. Where a bundle is put behind something of a worth, all of it is worth both;
several ways to a finish are joined. What cannot be is in no bundle, so that only what comes about is asked for: the
bundles of blocks in which something else is handled or bound (looker.inner), and those of calls (looker.call_at).
"""

from whatleaves.finishes import BREAKS, ENDS, RETURNS, handled_behind


def finishes_of_block(looker, place, block):
    """What a block can finish with where what is handled and bound is that of the place."""
    found = looker.nothing
    worth = looker.whole
    for step in block.steps[:-1]:
        finishes = looker.put_behind(worth, _finishes_of_step(looker, place, step))
        if not looker.has(finishes, ENDS):
            return looker.joined(found, finishes)
        found = looker.joined(found, looker.without(finishes, ENDS))
        worth = looker.worth_of(finishes, ENDS)
    last = _finishes_of_step(looker, place, block.steps[-1])
    return looker.joined(found, looker.put_behind(worth, last))


def _finishes_of_step(looker, place, step):
    action = ACTIONS[step.word]
    return action(looker, place, step)


def _pass(looker, place, step):
    return looker.single(ENDS, looker.whole)


def _return(looker, place, step):
    return looker.single(RETURNS, looker.whole)


def _break(looker, place, step):
    return looker.single(BREAKS, looker.whole)


def _raise(looker, place, step):
    statement = step.statement
    # The word none is never bound, so that it gives no cause.
    cause = place.handled if len(statement) == 2 else place.bound.get(statement[2])
    return looker.single(("leaves", looker.level.view(statement[1], cause)), looker.whole)


def _again(looker, place, step):
    if len(step.statement) == 2:
        view = place.bound[step.statement[1]]
    elif place.handled is None:
        view = looker.level.view("vacant", None)
    else:
        view = place.handled
    return looker.single(("leaves", view), looker.whole)


def _call(looker, place, step):
    return looker.call_at(place, step.statement[1], step.statement[2:], place.handled)


def _handling(looker, place, step):
    block = step.blocks[1] if place.handled is None else step.blocks[0]
    return finishes_of_block(looker, place, block)


def _either(looker, place, step):
    found = looker.nothing
    for k, block in enumerate(step.blocks):
        finishes = finishes_of_block(looker, place, block)
        found = looker.joined(found, looker.put_behind(looker.chosen(k), finishes))
    return found


def _loop(looker, place, step):
    finishes = finishes_of_block(looker, place, step.blocks[0])
    # One round is enough: nothing that it leaves behind matters to the next one, and the loop ends without any, too.
    left = looker.without(looker.without(finishes, BREAKS), ENDS)
    return looker.joined(looker.put_behind(looker.chosen(1), left), looker.single(ENDS, looker.chosen(0)))


def _try(looker, place, step):
    so_far = looker.nothing
    for finish, worth in looker.pairs_in(finishes_of_block(looker, place, step.blocks[0])):
        so_far = looker.joined(so_far, looker.put_behind(worth, _behind_first(looker, place, step, finish)))
    last = step.last_block()
    if last is None:
        return so_far
    found = looker.nothing
    for finish, worth in looker.pairs_in(so_far):
        finals = looker.inner(place, last, handled_behind(finish, place.handled), place.bound)
        found = looker.joined(found, _kept(looker, finish, looker.put_behind(worth, finals)))
    return found


def _behind_first(looker, place, step, finish):
    """What a clause or the block other finishes with, behind a first block that finishes so; else that finish."""
    if finish[0] == "leaves":
        c = looker.clause_for(step, finish[1])
        if c is not None:
            n = step.statement[2][c][1]
            bound = place.bound if n is None else {**place.bound, n: finish[1]}
            looker.begins(place, step.number, c)
            return looker.inner(place, step.blocks[1 + c], finish[1], bound)
    other = step.other_block()
    if finish == ENDS and other is not None:
        return finishes_of_block(looker, place, other)
    return looker.single(finish, looker.whole)


def _with(looker, place, step):
    enter, leave = step.statement[1:3]
    entered = looker.call_at(place, enter, (), place.handled)
    if not looker.has(entered, ENDS):
        return entered
    found = looker.nothing
    for finish, worth in looker.pairs_in(finishes_of_block(looker, place, step.blocks[0])):
        so_far = ENDS if finish[0] == "leaves" and looker.is_quiet(step, finish[1]) else finish
        finals = looker.call_at(place, leave, (), handled_behind(finish, place.handled))
        found = looker.joined(found, _kept(looker, so_far, looker.put_behind(worth, finals)))
    return looker.joined(looker.without(entered, ENDS), looker.put_behind(looker.worth_of(entered, ENDS), found))


def _kept(looker, finish, finals):
    """What something finishes with that is finished so, if what is done last, with these finals, ends."""
    if not looker.has(finals, ENDS):
        return finals
    return looker.joined(looker.without(finals, ENDS), looker.single(finish, looker.worth_of(finals, ENDS)))


# What finds the finishes for each first word of a statement.
ACTIONS = {
    "pass": _pass,
    "return": _return,
    "break": _break,
    "raise": _raise,
    "again": _again,
    "call": _call,
    "handling": _handling,
    "either": _either,
    "loop": _loop,
    "try": _try,
    "with": _with,
}
