"""Acts of outside callbacks, and sets of acts."""

from whatleaves.errors import NoAct
from whatleaves.words import is_word


class Acts:
    """A set of acts (p, j, o): the callback p, called while j is handled, has the outcome o."""

    def __init__(self, *rows):
        for k, row in enumerate(rows):
            if not is_act(row):
                raise NoAct(k)
        self._known = {row: True for row in rows}
        self.rows = tuple(sorted(list(self._known), key=act_order))

    @classmethod
    def made(cls, rows):
        """The set of the acts of a tuple or list."""
        return cls(*rows)

    def __len__(self):
        return len(self.rows)

    def __contains__(self, x):
        return is_act(x) and x in self._known

    def __eq__(self, other):
        return isinstance(other, Acts) and self.rows == other.rows

    def __or__(self, other):
        rows = self.rows + other.rows
        return Acts(*rows)

    def __and__(self, other):
        rows = [row for row in self.rows if row in other]
        return Acts(*rows)

    def __sub__(self, other):
        rows = [row for row in self.rows if row not in other]
        return Acts(*rows)

    def __xor__(self, other):
        one = [row for row in self.rows if row not in other]
        two = [row for row in other.rows if row not in self]
        rows = one + two
        return Acts(*rows)

    def within(self, other):
        """Whether each act of this set is in the other one."""
        return all([row in other for row in self.rows])


def is_act(x):
    """Whether x, any value, has the form of an act."""
    if not isinstance(x, tuple) or len(x) != 3:
        return False
    callback, handled, outcome = x
    return is_word(callback) and (handled is None or is_word(handled)) and (is_word(outcome) or outcome == "returns")


def act_order(act):
    """The key of an act in the order of acts: None and returns stand first."""
    callback, handled, outcome = act
    return (callback, handled or "", outcome != "returns", outcome)


def acts_over(classes, acts):
    """The acts of which all words for classes are names of classes."""
    rows = [row for row in acts.rows if _is_over(classes, row)]
    return Acts(*rows)


def _is_over(classes, act):
    _, handled, outcome = act
    return (handled is None or handled in classes) and (outcome == "returns" or outcome in classes)
