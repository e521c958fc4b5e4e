"""Programs, and the cases of calls of their functions."""

from whatleaves.classes import Classes
from whatleaves.errors import NoCase, NoName, NoProgram
from whatleaves.functions import Function
from whatleaves.statements import classes_in
from whatleaves.words import is_word

MOST_FUNCTIONS = 12


class Program:
    """Error classes and the functions that raise, take and pass on errors of these classes."""

    def __init__(self, classes, *functions):
        if not isinstance(classes, Classes):
            raise NoProgram("classes", None)
        table = _by_name(functions)
        for k, function in enumerate(functions):
            if any([callback in table for callback in function.callbacks]):
                raise NoProgram("callback", k)
        for k, function in enumerate(functions):
            for i, statement in enumerate(function.statements):
                if not _fits(statement, function, classes, table):
                    raise NoProgram("statement", (k, i))
        self.classes = classes
        self.functions = functions
        self.names = tuple(list(table))
        self._table = table

    @classmethod
    def made(cls, rows, functions):
        """The program with the rows of classes and the functions of tuples or lists."""
        classes = Classes(*rows)
        return cls(classes, *functions)

    def __len__(self):
        return len(self.functions)

    def __contains__(self, x):
        return isinstance(x, str) and x in self._table

    def __eq__(self, other):
        return isinstance(other, Program) and self.classes == other.classes and self.functions == other.functions

    def function(self, name):
        """The function with this name."""
        if name not in self:
            raise NoName(name)
        return self._table[name]

    def with_function(self, function):
        """A new program with this function in the place of the one with its name, or behind all."""
        if isinstance(function, Function) and function.name in self:
            functions = [function if one.name == function.name else one for one in self.functions]
        else:
            functions = [*self.functions, function]
        return Program(self.classes, *functions)

    def with_classes(self, *rows):
        """A new program with these rows behind those of its classes."""
        classes = self.classes.with_rows(*rows)
        functions = self.functions
        return Program(classes, *functions)

    def without(self, name):
        """A new program without the function with this name."""
        if name not in self:
            raise NoName(name)
        functions = [one for one in self.functions if one.name != name]
        return Program(self.classes, *functions)

    def case(self, function, *given, handled=None):
        """The case of a call of this function, (function, given, handled)."""
        if function not in self:
            raise NoCase("function")
        callbacks = self._table[function].callbacks
        things = callbacks if len(given) == 0 else given
        if len(things) != len(callbacks) or not all([self._can_stand(thing) for thing in things]):
            raise NoCase("given")
        if handled is not None and handled not in self.classes and not self.classes.is_kind(handled):
            raise NoCase("handled")
        return (function, things, handled)

    def _can_stand(self, x):
        """Whether x, any value, can be what a callback stands for."""
        if x in self:
            return len(self._table[x].callbacks) == 0
        return is_word(x)


def _by_name(functions):
    """A dict from the names to the functions."""
    table = {}
    for k, function in enumerate(functions):
        if k == MOST_FUNCTIONS or not isinstance(function, Function) or function.name in table:
            raise NoProgram("function", k)
        table[function.name] = function
    return table


def _fits(statement, function, classes, table):
    """Whether all that a statement of this function names is there, and is called and passed as it can be."""
    if not all([name in classes for name in classes_in(statement)]):
        return False
    if statement[0] == "with":
        return all([_can_be_passed(word, function, table) for word in statement[1:3]])
    if statement[0] == "call":
        return _can_be_called(statement[1], statement[2:], function, table)
    return True


def _can_be_called(called, passed, function, table):
    if called in function.callbacks:
        return len(passed) == 0
    if called not in table or len(passed) != len(table[called].callbacks):
        return False
    return all([_can_be_passed(word, function, table) for word in passed])


def _can_be_passed(word, function, table):
    """Whether a word is a callback of this function or a function without callbacks."""
    return word in function.callbacks or (word in table and len(table[word].callbacks) == 0)
