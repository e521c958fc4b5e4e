"""Goes through blocks by views, for all runs at once, and keeps what they can finish with."""

from whatleaves.fields import Fields
from whatleaves.finishes import finish_of_call, outcome_of_call
from whatleaves.placers import Placer


class Certain:
    """What outside callbacks do at a level, where it is only asked whether something can be: that is worth 1."""

    def __init__(self, level):
        self.level = level
        self.many = 1

    def done(self, callback, handled):
        """The outcomes of a call of this callback while handled is handled, each with its worth."""
        return {outcome: 1 for outcome in self.level.does(callback, handled)}


class Scan(Placer):
    """Goes through blocks where the outcomes of calls of functions are known.

    A worth is a family: an integer with one bit for each of many members, such as sets of acts, for which something can
    be. In a bundle no family is 0, and all have a member in common. The weights tell what outside callbacks do.
    """

    def __init__(self, program, level, weights):
        self.fields = Fields(weights.many)
        super().__init__(program, level, 0, self.fields.whole)
        self.weights = weights
        self._callbacks = {}
        self._answers = {}

    def entry(self, case):
        """The outcomes of calls with this case, each with its worth, 0 for none; here there are no outcomes."""
        return {}

    def outcomes_at(self, case):
        """The outcomes of the block of the case's function, each with its worth."""
        pairs = self.fields.pairs_in(self.root(case).finishes)
        return {outcome_of_call(finish): worth for finish, worth in pairs}

    def inner(self, place, block, handled, bound):
        """What a block in the block of a place can finish with."""
        return self.place_for(place.scope, block, handled, bound).finishes

    def outside(self, callback, handled):
        """What a call of an outside callback can finish with."""
        if (callback, handled) not in self._callbacks:
            self._callbacks[(callback, handled)] = self._bundle_of_call(self.weights.done(callback, handled))
        return self._callbacks[(callback, handled)]

    def called(self, place, case):
        """What a call in a place can finish with that has this case."""
        if case not in self._answers:
            self._answers[case] = self._bundle_of_call(self.entry(case))
        return self._answers[case]

    def chosen(self, k):
        """The worth of choice k: it can be made in any case."""
        return self.whole

    def single(self, finish, worth):
        """The bundle of one finish."""
        return self.fields.single(finish, worth)

    def joined(self, one, other):
        """What is in one or the other of two bundles."""
        return one | other

    def put_behind(self, worth, bundle):
        """A bundle behind something of this worth."""
        return self.fields.limited(bundle, worth)

    def has(self, bundle, finish):
        """Whether the finish is in the bundle."""
        return self.fields.worth_of(bundle, finish) != 0

    def worth_of(self, bundle, finish):
        """The worth of a finish in a bundle."""
        return self.fields.worth_of(bundle, finish)

    def without(self, bundle, finish):
        """The bundle without a finish."""
        return bundle - self.single(finish, self.worth_of(bundle, finish))

    def pairs_in(self, bundle):
        """Each finish in a bundle with its worth."""
        return self.fields.pairs_in(bundle)

    def _bundle_of_call(self, outcomes):
        worths = {finish_of_call(outcome): outcomes[outcome] for outcome in outcomes}
        return self.fields.bundle_of(worths)
