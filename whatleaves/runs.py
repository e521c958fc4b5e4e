"""Does one call: the block of its function, with choices that are taken from left to right."""

from whatleaves.errors import NoRecord
from whatleaves.finishes import BREAKS, ENDS, RETURNS, handled_behind
from whatleaves.fronts import given_error, new_error, passed_on
from whatleaves.words import is_number


class Run:
    """The call of row k of a record, with the runs of the rows before it."""

    def __init__(self, program, k, row, earlier):
        self.call, self.choices = row
        self.program = program
        self.k = k
        self.earlier = earlier
        self.stands = dict(zip(program.function(self.call[0]).callbacks, self.call[1]))
        self.position = 0
        self.used = []
        self.acts = []
        self.error = None

    def do(self):
        """Do the block and take all choices; keep the error that leaves, the rows that are used and the acts."""
        name, _, handled = self.call
        at_call = None if handled is None else given_error(handled)
        self.error = do_block(self, self.program.function(name).block, at_call, {})[1]
        if self.position < len(self.choices):
            raise NoRecord(self.k)

    def take_number(self, many):
        """Take a choice that is an integer from 0 on and below many."""
        choice = self._next_choice()
        if not is_number(choice) or choice >= many:
            raise NoRecord(self.k)
        return choice

    def call_of(self, word, passed, handled):
        """What a call finishes with while this error, or None, is handled."""
        thing = self.stands.get(word, word)
        name = None if handled is None else handled.name
        if thing not in self.program:
            return self._call_outside(thing, name)
        given = tuple([self.stands.get(other, other) for other in passed])
        return self._call_function((thing, given, name), handled)

    def is_taken(self, error, names):
        """Whether the class of the error is within one of the names."""
        return self.program.classes.meets((error.name,), names)

    def _call_outside(self, callback, name):
        outcome = self._next_choice()
        if outcome != "returns" and outcome not in self.program.classes:
            raise NoRecord(self.k)
        self.acts.append((callback, name, outcome))
        return ENDS if outcome == "returns" else ("leaves", new_error(outcome, None))

    def _call_function(self, call, handled):
        choice = self._next_choice()
        if not isinstance(choice, tuple) or choice[0] >= self.k or self.earlier[choice[0]].call != call:
            raise NoRecord(self.k)
        self.used.append(choice[0])
        error = self.earlier[choice[0]].error
        return ENDS if error is None else ("leaves", passed_on(error, handled))

    def _next_choice(self):
        if self.position == len(self.choices):
            raise NoRecord(self.k)
        self.position = self.position + 1
        return self.choices[self.position - 1]


def do_block(run, block, handled, bound):
    """What a block finishes with; bound is a dict from the bound names to errors."""
    for statement in block:
        action = ACTIONS[statement[0]]
        finish = action(run, statement, handled, bound)
        if finish[0] != "ends":
            return finish
    return ENDS


def _do_pass(run, statement, handled, bound):
    return ENDS


def _do_return(run, statement, handled, bound):
    return RETURNS


def _do_break(run, statement, handled, bound):
    return BREAKS


def _do_raise(run, statement, handled, bound):
    # The word none is never bound, so that it gives no cause.
    cause = handled if len(statement) == 2 else bound.get(statement[2])
    return ("leaves", new_error(statement[1], cause))


def _do_again(run, statement, handled, bound):
    if len(statement) == 2:
        return ("leaves", bound[statement[1]])
    if handled is None:
        return ("leaves", new_error("vacant", None))
    return ("leaves", handled)


def _do_call(run, statement, handled, bound):
    return run.call_of(statement[1], statement[2:], handled)


def _do_handling(run, statement, handled, bound):
    return do_block(run, statement[2] if handled is None else statement[1], handled, bound)


def _do_either(run, statement, handled, bound):
    blocks = statement[1:]
    return do_block(run, blocks[run.take_number(len(blocks))], handled, bound)


def _do_loop(run, statement, handled, bound):
    while run.take_number(2) == 1:
        finish = do_block(run, statement[1], handled, bound)
        if finish[0] == "breaks":
            return ENDS
        if finish[0] != "ends":
            return finish
    return ENDS


def _do_try(run, statement, handled, bound):
    _, block, clauses, other, last = statement
    so_far = do_block(run, block, handled, bound)
    if so_far[0] == "leaves":
        so_far = _do_clause(run, clauses, so_far[1], bound)
    elif so_far[0] == "ends":
        so_far = do_block(run, other, handled, bound)
    finish = do_block(run, last, handled_behind(so_far, handled), bound)
    return so_far if finish[0] == "ends" else finish


def _do_clause(run, clauses, error, bound):
    """What the first clause that takes the error finishes with; the error leaves if there is none."""
    for names, n, block in clauses:
        if run.is_taken(error, names):
            inner = bound if n is None else {**bound, n: error}
            return do_block(run, block, error, inner)
    return ("leaves", error)


def _do_with(run, statement, handled, bound):
    _, enter, leave, quiet, block = statement
    entered = run.call_of(enter, (), handled)
    if entered[0] == "leaves":
        return entered
    finish = do_block(run, block, handled, bound)
    left = run.call_of(leave, (), handled_behind(finish, handled))
    if left[0] == "leaves":
        return left
    if finish[0] == "leaves" and run.is_taken(finish[1], quiet):
        return ENDS
    return finish


# What is done for each first word of a statement.
ACTIONS = {
    "pass": _do_pass,
    "return": _do_return,
    "break": _do_break,
    "raise": _do_raise,
    "again": _do_again,
    "call": _do_call,
    "handling": _do_handling,
    "either": _do_either,
    "loop": _do_loop,
    "try": _do_try,
    "with": _do_with,
}
