"""Random programs from which many errors leave, with long trails: functions that call themselves and one another."""

from tests.random_programs import CALLBACKS, CLASSES, Blocks
from whatleaves.functions import Function
from whatleaves.programs import Program


class LivelyBlocks(Blocks):
    """Blocks with few ends that are reached by nothing: errors are taken, and others are raised while they are handled."""

    def __init__(self, random, callbacks):
        Blocks.__init__(self, random, callbacks)
        self.left = 12

    def statement(self, depth, in_loop, bound, clauses):
        self.left -= 1
        if self.left > 0 and depth < 5 and self.random.random() < 0.5:
            words = ("try", "try", "try", "either", "handling", "with", "loop")
            return self.large(self.random.choice(words), depth, in_loop, bound, clauses)
        raised = [("raise", self.name()), ("raise", self.name()), ("raise", self.name(), "none"), ("again",)]
        raised += [("again", n) for n in bound] + [("raise", self.name(), n) for n in bound] * 2
        words = [self.call, self.call, lambda: self.random.choice(raised), lambda: self.random.choice(raised)]
        return self.random.choice(words + [lambda: ("break",)] * in_loop + [lambda: ("pass",)])()

    def block(self, depth, in_loop, bound, clauses):
        many = self.random.choice((1, 1, 1, 2))
        return tuple(self.statement(depth, in_loop, bound, clauses) for _ in range(many))


def lively_program(random):
    """A program of four functions, each of which may also raise an error or return at once."""
    functions = []
    for name, callbacks in CALLBACKS.items():
        blocks = LivelyBlocks(random, callbacks)
        ends = [(("raise", blocks.name()),), (("pass",),), (("again",),)]
        first = blocks.block(1, False, (), 0)
        some = random.sample(ends, random.choice((1, 1, 2)))
        functions.append(Function(name, *callbacks, block=(("either", first, *some),)))
    return Program(CLASSES, *functions)
