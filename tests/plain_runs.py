"""Runs as the document tells them, with real errors and calls in one another: slow, and only for comparison with play.

Errors are objects with a class and a cause; Python's own exceptions carry them. A call of row k is done again wherever
it is called, so that nothing is said of fronts before the whole run is over.
"""


class Error:

    def __init__(self, name, cause):
        self.name = name
        self.cause = cause


class Leaves(Exception):

    def __init__(self, error):
        Exception.__init__(self)
        self.error = error


class Returns(Exception):
    pass


class Breaks(Exception):
    pass


class CannotGoOn(Exception):
    """No row has the case of a call."""


class PlainRun:
    """A call of a function. choose(what, worth) makes each choice: what is either, loop, outside or call."""

    def __init__(self, program, case, handled, choose):
        self.program = program
        self.choose = choose
        self.handled = handled
        function = program.function(case[0])
        self.block = function.block
        self.stands = {callback: case[1][k] for k, callback in enumerate(function.callbacks)}
        self.bound = {}

    def do(self):
        """The error that leaves, or None."""
        try:
            self.do_block(self.block)
        except Returns:
            return None
        except Leaves as leaving:
            return leaving.error
        return None

    def do_block(self, block):
        for statement in block:
            getattr(self, "do_" + statement[0])(*statement[1:])

    def do_with_handled(self, error, block, n=None):
        handled, bound = self.handled, dict(self.bound)
        self.handled = error
        if n is not None:
            self.bound[n] = error
        try:
            self.do_block(block)
        finally:
            self.handled, self.bound = handled, bound

    def made(self, name, cause):
        """A new error."""
        return Error(name, cause)

    def from_outside(self, outcome):
        return Error(outcome, None)

    def seen(self, error):
        """What a case has as handled while this error is handled."""
        return error.name

    def is_within(self, error, names):
        return any(self.program.classes.within(error.name, name) for name in names)

    def begins(self, clauses, c):
        """Take note of a clause."""

    def do_pass(self):
        pass

    def do_return(self):
        raise Returns()

    def do_break(self):
        raise Breaks()

    def do_raise(self, name, cause=None):
        if cause is None:
            raise Leaves(self.made(name, self.handled))
        raise Leaves(self.made(name, None if cause == "none" else self.bound[cause]))

    def do_again(self, n=None):
        if n is not None:
            raise Leaves(self.bound[n])
        raise Leaves(self.made("vacant", None) if self.handled is None else self.handled)

    def do_call(self, called, *passed):
        word = self.stands.get(called, called)
        handled = None if self.handled is None else self.seen(self.handled)
        if word in self.program.names:
            case = (word, tuple(self.stands.get(x, x) for x in passed), handled)
            error = self.choose("call", (case, self.handled))
        else:
            outcome = self.choose("outside", (word, handled))
            error = None if outcome == "returns" else self.from_outside(outcome)
        if error is not None:
            raise Leaves(error)

    def do_handling(self, one, other):
        self.do_block(other if self.handled is None else one)

    def do_either(self, *blocks):
        self.do_block(blocks[self.choose("either", len(blocks))])

    def do_loop(self, block):
        try:
            while self.choose("loop", 2) == 1:
                self.do_block(block)
        except Breaks:
            pass

    def do_try(self, block, clauses, other, last):
        if last != ():
            self.do_finally(("try", block, clauses, other, ()) if clauses else None, block, last)
            return
        try:
            self.do_block(block)
        except Leaves as leaving:
            for c, (names, n, inner) in enumerate(clauses):
                if self.is_within(leaving.error, names):
                    self.begins(clauses, c)
                    self.do_with_handled(leaving.error, inner, n)
                    return
            raise
        self.do_block(other)

    def do_finally(self, inner, block, last):
        try:
            self.do_block(block if inner is None else (inner,))
        except Leaves as leaving:
            self.do_with_handled(leaving.error, last)
            raise
        except (Returns, Breaks):
            self.do_block(last)
            raise
        self.do_block(last)

    def do_with(self, enter, leave, quiet, block):
        self.do_call(enter)
        try:
            self.do_block(block)
        except Leaves as leaving:
            self.do_with_handled(leaving.error, (("call", leave),))
            if not self.is_within(leaving.error, quiet):
                raise
            return
        except (Returns, Breaks):
            self.do_call(leave)
            raise
        self.do_call(leave)


def run_of_row(program, rows, k, handled):
    """The error that leaves row k, called while this error is handled; the callees are done in it."""
    case, choices = rows[k]
    left = list(choices)

    def choose(what, worth):
        choice = left.pop(0)
        return run_of_row(program, rows, choice[0], worth[1]) if what == "call" else choice

    error = PlainRun(program, case, handled, choose).do()
    assert left == []
    return error


def front_of(error, at_call):
    """The front of an error as a tuple, and whether it leads to the error that is handled at the call."""
    names = []
    while error is not None and error is not at_call:
        names.append(error.name)
        error = error.cause
    return tuple(names), error is not None


def random_row(program, rows, case, random, depth):
    """Add a row with this case and random choices behind the rows and those of its callees; return its index."""
    choices = []

    def choose(what, worth):
        if what == "either":
            choice = random.randrange(worth)
        elif what == "loop":
            choice = int(random.random() < 0.5)
        elif what == "outside":
            choice = random.choice(("returns",) + program.classes.names)
        else:
            choice = (callee(worth[0]),)
            choices.append(choice)
            return run_of_row(program, rows, choice[0], worth[1])
        choices.append(choice)
        return choice

    def callee(wanted):
        known = [k for k, (one, _) in enumerate(rows) if one == wanted]
        if known and (depth == 0 or random.random() < 0.5):
            return random.choice(known)
        if depth == 0:
            raise CannotGoOn()
        return random_row(program, rows, wanted, random, depth - 1)

    PlainRun(program, case, None if case[2] is None else Error(case[2], None), choose).do()
    rows.append((case, tuple(choices)))
    return len(rows) - 1
