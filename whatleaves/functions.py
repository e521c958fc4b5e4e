"""Functions: a name, callbacks and a block of statements."""

from whatleaves.errors import NoFunction
from whatleaves.statements import bound_names_in, is_block, is_statement, parts_of, walk
from whatleaves.words import is_word

MOST_CALLBACKS = 2
MOST_STATEMENTS = 60
DEEPEST = 12
MOST_CLAUSES_AROUND = 2


class Function:
    """A function of a program. Its statements are kept in reading order, too."""

    def __init__(self, name, *callbacks, block):
        _check_head(name, callbacks, block)
        _check_block(block)
        self.name = name
        self.callbacks = callbacks
        self.block = block
        self.statements = tuple(walk(block))

    @classmethod
    def made(cls, name, callbacks, block):
        """The function with the callbacks of a tuple or list."""
        return cls(name, *callbacks, block=block)

    def __len__(self):
        return len(self.statements)

    def __eq__(self, other):
        if not isinstance(other, Function):
            return False
        return self.name == other.name and self.callbacks == other.callbacks and self.block == other.block


class Spot:
    """A statement that is to be checked, with what counts of the statements around it."""

    def __init__(self, statement, depth, in_loop, bound, clauses):
        self.statement = statement
        self.depth = depth
        self.in_loop = in_loop
        self.bound = bound
        self.clauses = clauses

    def inner(self):
        """The spots of the statements in the blocks of this one, as they are written."""
        in_loop = self.in_loop or self.statement[0] == "loop"
        spots = []
        for block, clause in parts_of(self.statement):
            bound, clauses = self.bound, self.clauses
            if clause is not None:
                bound, clauses = bound + (clause[1],), clauses + 1
            spots.extend([Spot(step, self.depth + 1, in_loop, bound, clauses) for step in block])
        return spots

    def fault(self):
        """The reason why the statement cannot stand here, or None."""
        if self.depth > DEEPEST:
            return "deep"
        if not is_statement(self.statement):
            return "form"
        word = self.statement[0]
        if word == "break" and not self.in_loop:
            return "break"
        if not all([n in self.bound for n in bound_names_in(self.statement)]):
            return "bound"
        if word == "try" and len(self.statement[2]) > 0 and self.clauses >= MOST_CLAUSES_AROUND:
            return "clauses"
        return None


def _check_head(name, callbacks, block):
    if not is_word(name):
        raise NoFunction("name", None)
    for k, callback in enumerate(callbacks):
        if k == MOST_CALLBACKS or not is_word(callback) or callback == name or callback in callbacks[:k]:
            raise NoFunction("callback", k)
    if not is_block(block):
        raise NoFunction("block", None)


def _check_block(block):
    """Raise NoFunction for the first faulty statement in reading order."""
    # A statement is taken apart only when it is known to have no fault, and a list holds what waits, the next one
    # last: so blocks of any depth are refused at their thirteenth block.
    waiting = [Spot(step, 1, False, (), 0) for step in block[::-1]]
    i = 0
    while waiting:
        spot = waiting.pop()
        reason = "many" if i == MOST_STATEMENTS else spot.fault()
        if reason is not None:
            raise NoFunction(reason, i)
        waiting.extend(spot.inner()[::-1])
        i = i + 1
