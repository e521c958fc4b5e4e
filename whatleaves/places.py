"""Where blocks are done: for which call, and while what is handled."""


class Scope:
    """A function with what its callbacks stand for."""

    def __init__(self, number, name, given, callbacks, block):
        self.number = number
        self.name = name
        self.given = given
        self.stands = dict(zip(callbacks, given))
        self.block = block


class Place:
    """A block in a scope, what is handled there, and the views of what its names are bound to."""

    def __init__(self, number, scope, block, handled, bound, nothing):
        self.number = number
        self.scope = scope
        self.block = block
        self.handled = handled
        self.bound = bound
        # The bundle of what the block can finish with, and (time, bundle) for each time at which it grew.
        self.finishes = nothing
        self.grown = []
        # The numbers of the places whose finishes depend on these.
        self.users = {}

    def is_root(self):
        """Whether the block is the whole one of its function, so that the place is that of a case."""
        return self.block.first == 0

    def root_case(self):
        """The case of a root."""
        return (self.scope.name, self.scope.given, self.handled)
