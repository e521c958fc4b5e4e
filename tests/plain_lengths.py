"""Looks at lengths as the document tells them, by trying all choices one after the other: only for comparison."""

from tests.plain_looks import MOST_RUNS, PlainLook, TooManyRuns, View, next_script
from tests.plain_runs import CannotGoOn, Leaves, Returns
from whatleaves.lengths import length_look
from whatleaves.levels import Level


class Measured(View):
    """An error of which its class, the length of its front and whether its trail is open are known."""

    def __init__(self, name, is_open, length):
        View.__init__(self, name)
        self.is_open = is_open
        self.length = length


def plus(one, other):
    return None if one is None or other is None else one + other


def greater(one, other):
    return None if one is None or other is None else max(one, other)


class PlainLengthLook(PlainLook):

    def __init__(self, program, case, table, script):
        PlainLook.__init__(self, program, Level(program.classes), case, table, script)
        self.handled = None if case[2] is None else Measured(case[2], True, 0)

    def made(self, name, cause):
        if cause is None:
            return Measured(name, False, 1)
        return Measured(name, cause.is_open, plus(1, cause.length))

    def chosen(self, what, worth):
        if what != "call":
            return PlainLook.chosen(self, what, worth)
        case, handled = worth
        self.cases.add(case)
        entry = self.table.get(case, {})
        key = self.option(list(entry))
        if key == "returns":
            return None
        name, is_open = key
        if is_open:
            return Measured(name, handled.is_open, plus(entry[key], handled.length))
        return Measured(name, False, entry[key])

    def found(self):
        """The key and the length of what comes about, or None."""
        try:
            self.do_block(self.block)
        except Returns:
            return "returns", 0
        except Leaves as leaving:
            return (leaving.error.view, leaving.error.is_open), leaving.error.length
        except CannotGoOn:
            return None
        return "returns", 0


def plain_length_look(program, case, table):
    """The dict of a look, and the set of the cases of calls."""
    entry, cases, script = {}, set(), []
    for _ in range(MOST_RUNS):
        run = PlainLengthLook(program, case, table, script)
        found = run.found()
        if found is not None:
            key, length = found
            entry[key] = length if key not in entry else greater(entry[key], length)
        cases |= run.cases
        script = next_script(run.taken)
        if script is None:
            return entry, cases
    raise TooManyRuns()


def plain_lengths(program, cases):
    """The table of lengths of these cases, found by looking again and again.

    A length that has a greatest one comes about in a tree of calls in which no key is below itself. So what still grows
    when there were more rounds than keys has none.
    """
    table = {case: {} for case in cases}
    rounds = 0
    while True:
        grown = {case: length_look(program, case, table) for case in cases}
        if grown == table:
            return table
        rounds += 1
        if rounds > sum(len(entry) for entry in grown.values()) + 2:
            for case, entry in grown.items():
                for key in entry:
                    if entry[key] != table[case].get(key, -1):
                        entry[key] = None
        table = grown
