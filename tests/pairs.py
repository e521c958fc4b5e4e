"""A level with tuples as views: what is seen of an error is its class and the class of its cause."""

from whatleaves.levels import Level


class Pairs(Level):

    KIND = "word"

    def view(self, name, cause=None):
        return (name, "") if cause is None else (name, cause[0])

    def taken(self, view, names):
        return self.classes.meets((view[0],), names)

    def name_of(self, view):
        return view[0]


class DoingPairs(Pairs):
    """The same, with outside callbacks that do what the acts say of classes; their errors have no causes."""

    def __init__(self, classes, acts):
        Pairs.__init__(self, classes)
        self.acts = acts

    def does(self, callback, handled):
        name = None if handled is None else handled[0]
        done = [outcome for p, j, outcome in self.acts.rows if (p, j) == (callback, name)]
        known = [outcome for outcome in done if outcome == "returns" or outcome in self.classes]
        return tuple("returns" if outcome == "returns" else (outcome, "") for outcome in known)
