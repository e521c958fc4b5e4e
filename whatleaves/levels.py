"""Levels: how much of an error is seen, and what outside callbacks do."""

from whatleaves.acts import acts_over


class Level:
    """The level at which the view of an error is its class, and outside callbacks do nothing."""

    KIND = "class"

    def __init__(self, classes):
        self.classes = classes

    def view(self, name, cause=None):
        """The view of a new error of this class whose cause has the view cause; None for no cause."""
        return name

    def taken(self, view, names):
        """Whether an error with this view is within one of the names."""
        # A table that is not right may have outcomes that are no classes, which are within none.
        return view in self.classes and self.classes.meets((view,), names)

    def does(self, callback, handled):
        """The outcomes of a call of this outside callback while an error with the view handled, or none, is handled."""
        return ()

    def name_of(self, view):
        """The class of an error with this view."""
        return view


class ByClass(Level):
    """The level at which the view of an error is its class, and outside callbacks do what the acts say."""

    # The methods of the interface stand in each class of it, those too that do as the base class does.

    def __init__(self, classes, acts):
        super().__init__(classes)
        self.acts = acts
        self._done = {}
        for callback, handled, outcome in acts_over(classes, acts).rows:
            self._done[(callback, handled)] = self._done.get((callback, handled), ()) + (outcome,)

    def view(self, name, cause=None):
        """The view of a new error of this class: the class."""
        return super().view(name, cause)

    def taken(self, view, names):
        """Whether the class view is within one of the names."""
        return super().taken(view, names)

    def does(self, callback, handled):
        """The outcomes of the acts of this callback while handled is handled."""
        return self._done.get((callback, handled), ())

    def name_of(self, view):
        """The class of an error with this view: the view."""
        return super().name_of(view)
