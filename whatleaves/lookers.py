"""What goes through blocks by views, whatever things are worth to it."""


class Looker:
    """Goes through blocks of a program at a level. Its nothing is the empty bundle, its whole the worth of anything."""

    def __init__(self, program, level, nothing, whole):
        self.program = program
        self.level = level
        self.nothing = nothing
        self.whole = whole

    def call_at(self, place, word, passed, handled):
        """What a call in a place can finish with while handled is handled."""
        stands = place.scope.stands
        thing = stands.get(word, word)
        if thing not in self.program:
            return self.outside(thing, handled)
        given = tuple([stands.get(other, other) for other in passed])
        return self.called(place, (thing, given, handled))

    def outside(self, callback, handled):
        """What a call of an outside callback can finish with; here with nothing."""
        return self.nothing

    def called(self, place, case):
        """What a call in a place can finish with that has this case; here with nothing."""
        return self.nothing

    def begins(self, place, number, c):
        """Take note that the block of clause c of the statement with this number is begun; here not at all."""

    def clause_for(self, step, view):
        """The first clause of a try that takes an error with this view, or None."""
        if view not in step.takers:
            step.takers[view] = self._first_clause(step.statement[2], view)
        return step.takers[view]

    def is_quiet(self, step, view):
        """Whether a with keeps an error with this view quiet."""
        if view not in step.takers:
            step.takers[view] = self.level.taken(view, step.statement[3])
        return step.takers[view]

    def _first_clause(self, clauses, view):
        for c, clause in enumerate(clauses):
            if self.level.taken(view, clause[0]):
                return c
        return None
