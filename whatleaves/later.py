"""What leaves where classes are made later, with any bases, and outside callbacks do everything."""

from whatleaves.levels import Level
from whatleaves.tables import outcomes


class ByKind(Level):
    """The level at which the view of an error is its kind, and outside callbacks do everything."""

    KIND = "kind"

    def __init__(self, classes):
        everything = ("returns",) + classes.kinds()
        super().__init__(classes)
        self._everything = everything

    def view(self, name, cause=None):
        """The view of a new error of this class: the kind of the class."""
        return (name,)

    def taken(self, view, names):
        """Whether a class of this kind is within one of the names."""
        # A table that is not right may have outcomes that are no kinds, which are within none.
        return all([name in self.classes for name in view]) and self.classes.meets(view, names)

    def does(self, callback, handled):
        """All outcomes that there are."""
        return self._everything

    def name_of(self, view):
        """The class with this kind, or None if only classes that are made later have it."""
        return view[0] if len(view) == 1 else None


def leaving(program, case):
    """The kinds of the errors that leave a case, ascending."""
    found = outcomes(program, ByKind(program.classes), case)
    return tuple([kind for kind in found if kind != "returns"])
