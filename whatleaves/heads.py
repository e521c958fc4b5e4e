"""Statements with blocks while their rows are read."""

from whatleaves.rows import clause_words

# For the first and the latest row at the place of a statement: the words of the rows that may follow at this place.
NEXT = {
    ("handling", "handling"): ("else",),
    ("either", "either"): ("or",),
    ("either", "or"): ("or",),
    ("try", "try"): ("except", "finally"),
    ("try", "except"): ("except", "else", "finally"),
    ("try", "else"): ("finally",),
}
# The first and the latest row of the statements that cannot stop here.
UNFINISHED = (("handling", "handling"), ("either", "either"), ("try", "try"))


class Head:
    """A statement with blocks: the words of the rows at its place, and the statements of the block behind each."""

    def __init__(self, words):
        self.heads = [words]
        self.blocks = [[]]

    def goes_on(self, words):
        """Add a row that stands at the place of the statement and begins a block, or return False."""
        if words[0] not in NEXT.get(self._state(), ()):
            return False
        self.heads.append(words)
        self.blocks.append([])
        return True

    def can_stop(self):
        """Whether the statement may be finished with its latest block."""
        return self._state() not in UNFINISHED

    def finished(self):
        """The statement that was read."""
        words = self.heads[0]
        blocks = [tuple(block) for block in self.blocks]
        if words[0] == "try":
            return self._try(blocks)
        if words[0] == "with":
            return ("with", words[1], words[2], tuple(words[4:]), blocks[0])
        return (words[0], *blocks)

    def _try(self, blocks):
        clauses = []
        ends = {"else": (), "finally": ()}
        for words, block in zip(self.heads, blocks):
            if words[0] == "except":
                names, n = clause_words(words)
                clauses.append((names, n, block))
            elif words[0] != "try":
                ends[words[0]] = block
        return ("try", blocks[0], tuple(clauses), ends["else"], ends["finally"])

    def _state(self):
        return (self.heads[0][0], self.heads[-1][0])
