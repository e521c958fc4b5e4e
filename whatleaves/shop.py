"""A shop: a program that is changed, its earlier states, and a case that is watched."""

from whatleaves.errors import NoCase
from whatleaves.levels import ByClass
from whatleaves.tables import outcomes


class Shop:
    """Keeps a program and its earlier states."""

    def __init__(self, program):
        self._program = program
        self._earlier = []
        # The acts and the case that are watched, or None; and what is answered, found out at each change, since a
        # property changes nothing.
        self._watched = None
        self._told = ()

    @property
    def current(self):
        """The program now."""
        return self._program

    @property
    def answer(self):
        """The outcomes of the watched case now, () if nothing is watched, None if the case is no case now."""
        return self._told

    def __len__(self):
        return len(self._earlier)

    def take(self, program):
        """Let this be the current program."""
        self._earlier.append(self._program)
        self._become(program)

    def put(self, function):
        """Put a function in the place of the one with its name, or behind all."""
        self.take(self._program.with_function(function))

    def grow(self, *rows):
        """Put these rows behind those of the classes."""
        self.take(self._program.with_classes(*rows))

    def drop(self, name):
        """Take out the function with this name."""
        self.take(self._program.without(name))

    def undo(self):
        """Take back the last change that was not taken back; return whether there was one."""
        if len(self._earlier) == 0:
            return False
        self._become(self._earlier.pop())
        return True

    def watch(self, acts, function, *given, handled=None):
        """Watch a case from now on, with callbacks that do these acts."""
        case = self._program.case(function, *given, handled=handled)
        self._watched = (acts, case)
        self._told = self._answer_in(self._program)

    def tried(self, *functions):
        """What the answer would be if these functions were put, one after the other."""
        program = self._program
        for function in functions:
            program = program.with_function(function)
        return self._answer_in(program)

    def _become(self, program):
        self._program = program
        self._told = self._answer_in(program)

    def _answer_in(self, program):
        if self._watched is None:
            return ()
        acts, case = self._watched
        function, given, handled = case
        try:
            now = program.case(function, *given, handled=handled)
        except NoCase:
            return None
        return outcomes(program, ByClass(program.classes, acts), case) if now == case else None
