"""Goes through blocks and gathers what is kept of the fronts of the errors that leave them."""

from whatleaves.placers import Placer
from whatleaves.strands import NOTHING, as_base, class_case, has_front, own_views
from whatleaves.uses import HANDLED


class Weaver(Placer):
    """Goes through blocks where it is known how the calls of functions finish; the level is one of strands.

    A bundle is a dict from finishes. Where the front of an error has classes ahead of the base, it has what the level
    keeps of these, without which the view in the finish is written; it has True for all other finishes.
    """

    def __init__(self, program, level):
        super().__init__(program, level, {}, True)

    def entry(self, case):
        """How calls of a case, with None or a class as handled, can finish; here they do not."""
        return {}

    def place_for(self, scope, block, handled, bound):
        """The place of a block in a scope."""
        handled, bound = own_views(block, handled, bound)
        return super().place_for(scope, block, handled, bound)

    def inner(self, place, block, handled, bound):
        """What a block in the block of a place can finish with."""
        used = self.place_for(place.scope, block, handled, bound)
        views = {n: bound[n] for n in block.names}
        self.passes(place, used, handled, views)
        is_own = handled == used.handled and views == used.bound
        return used.finishes if is_own else self._seen(used.finishes, handled, views)

    def called(self, place, case):
        """What a call in a place can finish with that has this case."""
        finishes = self.entry(class_case(case))
        return finishes if case[2] == as_base(case[2], HANDLED) else self._seen(finishes, case[2], {})

    def passes(self, place, used, handled, bound):
        """Take note that a block is begun in the block of a place; here not at all."""

    def clause_for(self, step, view):
        """The first clause of a try that takes an error with this view, or None."""
        return super().clause_for(step, view[:1])

    def is_quiet(self, step, view):
        """Whether a with keeps an error with this view quiet."""
        return super().is_quiet(step, view[:1])

    def chosen(self, k):
        """The worth of choice k."""
        return True

    def single(self, finish, worth):
        """The bundle of one finish."""
        return {_known_as(finish): self._told_of(finish)}

    def joined(self, one, other):
        """What is in one or the other of two bundles."""
        if len(one) == 0:
            return other
        both = {finish: one[finish] for finish in one}
        for finish in other:
            if finish not in both:
                both[finish] = other[finish]
            elif both[finish] is not True:
                both[finish] = self.level.either(both[finish], other[finish])
        return both

    def put_behind(self, worth, bundle):
        """A bundle behind something else: the same."""
        return bundle

    def has(self, bundle, finish):
        """Whether the finish is in the bundle."""
        return finish in bundle

    def worth_of(self, bundle, finish):
        """The worth of a finish in which no error leaves."""
        return True

    def without(self, bundle, finish):
        """The bundle without a finish."""
        return {other: bundle[other] for other in bundle if other != finish}

    def pairs_in(self, bundle):
        """Each finish in a bundle, with whole views."""
        return [(self._whole(finish, bundle[finish]), True) for finish in bundle]

    def _seen(self, finishes, handled, bound):
        found = {}
        for finish in finishes:
            more = finishes[finish]
            if finish[0] == "leaves" and finish[1][1] != NOTHING:
                error = handled if finish[1][1] == HANDLED else bound[finish[1][1]]
                finish, more = self._ahead_of(error, finish, more)
            if finish not in found:
                found[finish] = more
            elif more is not True:
                found[finish] = self.level.either(found[finish], more)
        return found

    def _ahead_of(self, error, finish, more):
        """A finish, and what is told of its front, for the classes of a finish ahead of an error."""
        name, base, bare, behind = error
        if not has_front(finish):
            return _known_as(("leaves", error)), self._told_of(("leaves", error))
        if not bare:
            more = self.level.spread(self.level.together(self.level.gathered(more), behind))
        return ("leaves", (finish[1][0], base, False)), more

    def _whole(self, finish, more):
        return ("leaves", finish[1] + (self.level.gathered(more),)) if has_front(finish) else finish

    def _told_of(self, finish):
        return self.level.spread(finish[1][3]) if has_front(finish) else True


def _known_as(finish):
    return ("leaves", finish[1][:3]) if has_front(finish) else finish
