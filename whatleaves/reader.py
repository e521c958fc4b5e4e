"""Reads programs and functions from their texts."""

from whatleaves.classes import Classes
from whatleaves.errors import NoText
from whatleaves.functions import Function
from whatleaves.heads import Head
from whatleaves.programs import Program
from whatleaves.rows import is_class_row, is_def_row, is_head_row, is_next_row, simple_statement, split_row


def read_program(text):
    """The program with this text."""
    source = Source(True)
    _read_rows(text, source)
    classes = Classes(*source.classes)
    functions = [_made_function(body) for body in source.bodies]
    return Program(classes, *functions)


def read_function(text):
    """The function with this text."""
    source = Source(False)
    _read_rows(text, source)
    return _made_function(source.bodies[0])


def _read_rows(text, source):
    """Let the source take each row of the text; raise NoText for the first one that it does not take."""
    if not isinstance(text, str):
        raise NoText(0)
    rows = text.split("\n") if text != "" else []
    for k, row in enumerate(rows):
        if not source.takes(row):
            raise NoText(k)
    if not source.stops():
        raise NoText(len(rows))


def _made_function(body):
    return Function.made(body.name, body.callbacks, tuple(body.block))


class Source:
    """The rows of a text so far, taken apart: those of a whole program, or else those of one function."""

    def __init__(self, whole):
        self.whole = whole
        self.classes = []
        self.bodies = []

    def takes(self, row):
        """Add a row and return True, or return False if no text begins in this way."""
        depth, words = split_row(row)
        if depth is None:
            return False
        if depth > 0:
            return len(self.bodies) > 0 and self.bodies[-1].takes(depth, words)
        if is_class_row(words):
            return self._takes_class(words)
        return is_def_row(words) and self._takes_def(words)

    def stops(self):
        """Whether a text may stop here."""
        if len(self.bodies) == 0:
            return self.whole
        return self.bodies[-1].stops()

    def _takes_class(self, words):
        if not self.whole or len(self.bodies) > 0:
            return False
        self.classes.append(tuple(words[1:]))
        return True

    def _takes_def(self, words):
        if len(self.bodies) > 0 and not (self.whole and self.bodies[-1].stops()):
            return False
        self.bodies.append(Body(words[1], words[2:]))
        return True


class Body:
    """A function that is read: its block so far, and its unfinished statements, each within the one before it."""

    def __init__(self, name, callbacks):
        self.name = name
        self.callbacks = callbacks
        self.block = []
        self.unfinished = []

    def takes(self, depth, words):
        """Add a row that stands at this depth and return True, or return False if no text begins in this way."""
        deepest = len(self.unfinished) + 1
        if depth > deepest or (depth < deepest and not self._finishes(depth)):
            return False
        if len(self.unfinished) < depth:
            return self._begins(words)
        if is_next_row(words):
            return self.unfinished[-1].goes_on(words)
        return self._finishes(depth - 1) and self._begins(words)

    def stops(self):
        """Finish all statements and return True, or return False if one of them cannot stop here."""
        return self._finishes(0)

    def _latest(self):
        """The block that the next statement is a part of, if no statement is finished before."""
        return self.unfinished[-1].blocks[-1] if len(self.unfinished) > 0 else self.block

    def _finishes(self, many):
        """Finish the inner statements until so many are unfinished, or return False if one cannot stop here."""
        if len(self._latest()) == 0:
            return False
        while len(self.unfinished) > many:
            head = self.unfinished.pop()
            if not head.can_stop():
                return False
            self._latest().append(head.finished())
        return True

    def _begins(self, words):
        """Add the first row of a statement, or return False."""
        if is_head_row(words):
            self.unfinished.append(Head(words))
            return True
        statement = simple_statement(words)
        if statement is None:
            return False
        self._latest().append(statement)
        return True
