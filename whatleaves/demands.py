"""Lists of least sets of acts."""

from whatleaves.acts import Acts, act_order
from whatleaves.errors import TooMany

MOST_ACTS = 8


class Demands:
    """A list of sets of acts, read as all acts of one of these sets; only the least sets are kept."""

    def __init__(self, *sets):
        self.sets = _least(sets)

    @staticmethod
    def always():
        """What demands nothing."""
        return Demands(Acts())

    @staticmethod
    def never():
        """What cannot be met."""
        return Demands()

    @classmethod
    def made(cls, sets):
        """The Demands of the sets of a tuple or list."""
        return cls(*sets)

    def __call__(self, acts):
        return any([one.within(acts) for one in self.sets])

    def __len__(self):
        return len(self.sets)

    def __getitem__(self, at):
        return self.sets[at]

    def __iter__(self):
        raise TypeError("take the sets of a Demands from its attribute sets")

    def __eq__(self, other):
        return isinstance(other, Demands) and self.sets == other.sets

    def __or__(self, other):
        sets = self.sets + other.sets
        return Demands(*sets)

    def __and__(self, other):
        sets = [one | two for one in self.sets for two in other.sets]
        return Demands(*sets)

    def dual(self):
        """The Demands of the least sets that have an act in common with each set."""
        bits = _bits_of(self.sets)
        rows = list(bits)
        masks = [_mask(one, bits) for one in self.sets]
        meeting = [mask for mask in range(1 << len(rows)) if all([mask & other != 0 for other in masks])]
        sets = [_part(rows, mask) for mask in meeting]
        return Demands(*sets)

    def filled(self, callback, acts):
        """What is demanded of the others if this callback does those of its acts that are in acts, and no other."""
        sets = [_without(one, callback) for one in self.sets if _settles(one, callback, acts)]
        return Demands(*sets)

    def renamed(self, words):
        """The same for callbacks with other words; words is a dict from words to words."""
        sets = [_renamed(one, words) for one in self.sets]
        return Demands(*sets)


def in_order_of_sets(sets):
    """The sets of acts in a tuple or list, ordered by their number of acts, then by their rows."""
    return sorted(sets, key=_set_order)


def _set_order(one):
    return (len(one), [act_order(row) for row in one.rows])


def _least(sets):
    """The tuple of the sets that contain no other one, in order."""
    bits = _bits_of(sets)
    kept = []
    masks = []
    together = {}
    for one in in_order_of_sets(sets):
        mask = _mask(one, bits)
        # A set that is kept stays: those that come later have no fewer acts.
        if not any([mask & other == other for other in masks]):
            kept.append(one)
            masks.append(mask)
            for row in one.rows:
                together[row] = True
        if len(together) > MOST_ACTS:
            raise TooMany("acts", MOST_ACTS)
    return tuple(kept)


def _bits_of(sets):
    """A bit for each act in some set."""
    bits = {}
    for one in sets:
        for row in one.rows:
            if row not in bits:
                bits[row] = 1 << len(bits)
    return bits


def _mask(one, bits):
    mask = 0
    for row in one.rows:
        mask = mask | bits[row]
    return mask


def _part(rows, mask):
    """The set of the acts in a list whose bits are in the mask."""
    part = [row for k, row in enumerate(rows) if mask >> k & 1 == 1]
    return Acts(*part)


def _settles(one, callback, acts):
    return all([row in acts for row in one.rows if row[0] == callback])


def _without(one, callback):
    rows = [row for row in one.rows if row[0] != callback]
    return Acts(*rows)


def _renamed(one, words):
    rows = [(words.get(callback, callback), handled, outcome) for callback, handled, outcome in one.rows]
    return Acts(*rows)
