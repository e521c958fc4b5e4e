"""What goes through blocks each of which has a place of its own."""

from whatleaves.finishes import ENDS, RETURNS
from whatleaves.lookers import Looker
from whatleaves.moves import finishes_of_block
from whatleaves.places import Place, Scope
from whatleaves.steps import Block


class Placer(Looker):
    """Makes the places of blocks, one for all that is the same to what stands in them."""

    def __init__(self, program, level, nothing, whole):
        super().__init__(program, level, nothing, whole)
        self.places = {}
        self._blocks = {}
        self._scopes = {}

    def root(self, case):
        """The place of a case."""
        name, given, handled = case
        if (name, given) not in self._scopes:
            self._scopes[(name, given)] = self._scope(name, given)
        scope = self._scopes[(name, given)]
        return self.place_for(scope, scope.block, handled, {})

    def place_for(self, scope, block, handled, bound):
        """The place of a block in a scope; bound has all names that are bound there."""
        views = tuple([bound[n] for n in block.names]) if len(block.names) > 0 else ()
        key = (scope.number, block.first, handled, views)
        if key not in self.places:
            # Only what the block reads is bound, so that one place serves for all that it does not read.
            read = {n: bound[n] for n in block.names}
            self.places[key] = Place(len(self.places), scope, block, handled, read, self.nothing)
            self.enters(self.places[key])
        return self.places[key]

    def enters(self, place):
        """Find out what the block of a new place can finish with."""
        place.finishes = self.finishes_at(place)

    def finishes_at(self, place):
        """What the block of a place can finish with; at a root a return is an end."""
        found = finishes_of_block(self, place, place.block)
        if not place.is_root() or not self.has(found, RETURNS):
            return found
        return self.joined(self.without(found, RETURNS), self.single(ENDS, self.worth_of(found, RETURNS)))

    def _scope(self, name, given):
        function = self.program.function(name)
        if name not in self._blocks:
            self._blocks[name] = Block(function.block, 0)
        return Scope(len(self._scopes), name, given, function.callbacks, self._blocks[name])
