"""Looks as the document tells them, by trying all choices one after the other: slow, and only for comparison."""

from tests.plain_runs import Breaks, CannotGoOn, Leaves, PlainRun, Returns

MOST_RUNS = 2000
MOST_ROUNDS = 2


class TooManyRuns(Exception):
    pass


class View:
    """An error of which nothing is known but its view."""

    def __init__(self, view):
        self.view = view


class PlainLook(PlainRun):
    """One of the runs of a look. A script says which options are taken; where it stops, the first ones are."""

    def __init__(self, program, level, case, table, script):
        PlainRun.__init__(self, program, case, None if case[2] is None else View(case[2]), self.chosen)
        self.level = level
        self.table = table
        self.script = script
        self.taken = []
        self.cases = set()
        self.clauses = set()

    def made(self, name, cause):
        return View(self.level.view(name, None if cause is None else cause.view))

    def from_outside(self, outcome):
        return View(outcome)

    def seen(self, error):
        return error.view

    def is_within(self, error, names):
        return self.level.taken(error.view, names)

    def begins(self, clauses, c):
        # No two statements of the programs that are compared are one object.
        numbers = [i for i, step in enumerate(numbered(self.block)) if step[0] == "try" and step[2] is clauses]
        assert len(numbers) == 1
        self.clauses.add((numbers[0], c))

    def option(self, options):
        if len(options) == 0:
            raise CannotGoOn()
        k = len(self.taken)
        at = self.script[k] if k < len(self.script) else 0
        self.taken.append((at, len(options)))
        return options[at]

    def chosen(self, what, worth):
        if what == "either":
            return self.option(range(worth))
        if what == "outside":
            return self.option(self.level.does(*worth))
        self.cases.add(worth[0])
        outcome = self.option(self.table.get(worth[0], ()))
        return None if outcome == "returns" else View(outcome)

    def do_loop(self, block):
        try:
            for _ in range(self.option(range(MOST_ROUNDS + 1))):
                self.do_block(block)
        except Breaks:
            pass

    def outcome(self):
        """The outcome of the run, or None if it cannot go on."""
        try:
            self.do_block(self.block)
        except Returns:
            return "returns"
        except Leaves as leaving:
            return leaving.error.view
        except CannotGoOn:
            return None
        return "returns"


def numbered(block):
    """The statements of a block in reading order."""
    steps = []
    for step in block:
        steps.append(step)
        if step[0] in ("handling", "either", "loop"):
            inner = step[1:]
        elif step[0] == "try":
            inner = (step[1], *[clause[2] for clause in step[2]], step[3], step[4])
        else:
            inner = step[4:] if step[0] == "with" else ()
        for part in inner:
            steps.extend(numbered(part))
    return steps


def plain_look(program, level, case, table):
    """Three sets: of the outcomes, of the cases and of the clauses of a look."""
    outcomes, cases, clauses = set(), set(), set()
    script = []
    for _ in range(MOST_RUNS):
        run = PlainLook(program, level, case, table, script)
        outcome = run.outcome()
        outcomes |= set() if outcome is None else {outcome}
        cases |= run.cases
        clauses |= run.clauses
        script = next_script(run.taken)
        if script is None:
            return outcomes, cases, clauses
    raise TooManyRuns()


def next_script(taken):
    """The next script in the order of all scripts, or None behind the last one."""
    taken = list(taken)
    while taken:
        at, many = taken.pop()
        if at + 1 < many:
            return [at for at, _ in taken] + [at + 1]
    return None


def plain_table(program, level, case):
    """The least table that contains the case, as a dict from cases to sets, found by looking again and again."""
    table = {case: set()}
    while True:
        looks = {one: plain_look(program, level, one, {two: list(table[two]) for two in table}) for one in table}
        grown = {one: table.get(one, set()) for look in looks.values() for one in look[1]}
        grown.update({one: set(look[0]) for one, look in looks.items()})
        if grown == table:
            return table
        table = grown
