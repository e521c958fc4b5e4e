"""Blocks whose statements are numbered, with what they read from around them."""

from whatleaves.statements import bound_names_in, parts_of
from whatleaves.uses import uses_of, uses_together


class Block:
    """A block of a function; first is the number of its first statement, behind the number behind its last one."""

    def __init__(self, statements, first):
        steps = []
        behind = first
        for statement in statements:
            step = Step(statement, behind)
            steps.append(step)
            behind = step.behind
        self.first = first
        self.behind = behind
        self.steps = steps
        # The bound names, ascending, that some statement in the block reads and that are bound around the block.
        self.names = sorted(set([n for step in steps for n in step.names]))
        self.uses = uses_together([step.uses for step in steps])


class Step:
    """A statement with its number in the function, and its blocks in the order in which they are written."""

    def __init__(self, statement, number):
        blocks = []
        names = list(bound_names_in(statement))
        behind = number + 1
        for part, clause in parts_of(statement):
            block = Block(part, behind)
            blocks.append(block)
            names.extend([n for n in block.names if clause is None or n != clause[1]])
            behind = block.behind
        self.statement = statement
        self.word = statement[0]
        self.number = number
        self.blocks = blocks
        self.behind = behind
        self.names = names
        self.uses = uses_of(statement, blocks)
        # What takes an error with a view, for each view that was asked for.
        self.takers = {}

    def other_block(self):
        """The block of a try that is done where its first block ends, or None."""
        return self.blocks[1 + len(self.statement[2])] if len(self.statement[3]) > 0 else None

    def last_block(self):
        """The last block of a try, which is done in each case, or None."""
        return self.blocks[-1] if len(self.statement[4]) > 0 else None
