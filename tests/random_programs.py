"""Random programs, for tests with a seed."""

from whatleaves.acts import Acts
from whatleaves.classes import Classes
from whatleaves.functions import Function
from whatleaves.programs import Program

CLASSES = Classes(("a", "error"), ("b", "error"), ("c", "a", "b"))
CALLBACKS = {"f": ("p",), "g": (), "h": (), "two": ("p", "q")}


class Blocks:
    """Makes blocks of a function; left is the number of statements that may still be made.

    Busy blocks mostly call callbacks and look at their errors.
    """

    def __init__(self, random, callbacks, busy=False):
        self.random = random
        self.callbacks = callbacks if busy else ()
        self.left = 14
        self.things = callbacks + tuple(name for name in CALLBACKS if CALLBACKS[name] == ())
        self.called = callbacks + tuple(CALLBACKS)

    def block(self, depth, in_loop, bound, clauses):
        many = self.random.choice((1, 1, 2, 3))
        return tuple(self.statement(depth, in_loop, bound, clauses) for _ in range(many))

    def statement(self, depth, in_loop, bound, clauses):
        random = self.random
        self.left -= 1
        if self.left > 0 and depth < 6 and random.random() < 0.6:
            words = ("handling", "either", "loop", "try", "try", "try", "with") + ("try",) * 4 * len(self.callbacks)
            return self.large(random.choice(words), depth, in_loop, bound, clauses)
        if self.callbacks != () and random.random() < 0.7:
            return ("call", random.choice(self.callbacks))
        simple = [("pass",), ("return",), ("raise", self.name()), ("raise", self.name(), "none"), ("again",)]
        simple += [("break",)] * in_loop * 2 + [("again", n) for n in bound] + [("raise", self.name(),
            n) for n in bound]
        simple += [self.call()] * 4
        return random.choice(simple)

    def large(self, word, depth, in_loop, bound, clauses):
        def inner(looped=in_loop, names=bound, around=clauses):
            return self.block(depth + 1, looped, names, around)

        if word == "loop":
            return ("loop", inner(True))
        if word in ("handling", "either"):
            return (word, inner(), inner())
        if word == "with":
            quiet = tuple(self.random.sample(CLASSES.names, self.random.choice((0, 1, 2))))
            return ("with", self.random.choice(self.things), self.random.choice(self.things), quiet, inner())
        first, made = inner(), []
        for _ in range(self.random.choice((0, 1, 1, 2)) if clauses < 2 else 0):
            n = self.random.choice((None, "n", "m"))
            names = tuple(self.random.sample(CLASSES.names, self.random.choice((1, 1, 2))))
            made.append((names, n, inner(names=bound if n is None else bound + (n,), around=clauses + 1)))
        other = inner() if made and self.random.random() < 0.3 else ()
        last = inner() if not made or self.random.random() < 0.4 else ()
        return ("try", first, tuple(made), other, last)

    def name(self):
        return self.random.choice(CLASSES.names)

    def call(self):
        called = self.random.choice(self.called)
        return ("call", called) + tuple(self.random.choice(self.things) for _ in CALLBACKS.get(called, ()))


def random_program(random, busy=False):
    """A program of four functions that may call one another."""
    functions = []
    for name, callbacks in CALLBACKS.items():
        block = Blocks(random, callbacks, busy).block(1, False, (), 0)
        functions.append(Function(name, *callbacks, block=block))
    return Program(CLASSES, *functions)


def random_acts(random, classes, many, words=("p", "p", "x")):
    """At most so many acts, some of them with words that are no classes."""
    handled = (None,) * 4 + classes.names + ("w",)
    outcomes = ("returns",) * 3 + classes.names + ("v",)
    return Acts(*[(random.choice(words), random.choice(handled), random.choice(outcomes)) for _ in range(many)])
