"""Looks, tables and records of random programs, held against all runs one after the other."""

import random
import unittest

from tests.pairs import DoingPairs, Pairs
from tests.plain_looks import TooManyRuns, plain_look, plain_table
from tests.plain_runs import CannotGoOn, random_row
from tests.random_programs import random_acts, random_program
from tests.samples import told
from whatleaves.acts import Acts
from whatleaves.errors import Barred
from whatleaves.levels import ByClass, Level
from whatleaves.looks import look
from whatleaves.paths import record_of
from whatleaves.plays import play
from whatleaves.records import Record
from whatleaves.tables import closed, outcomes, table_of
from whatleaves.texts import program_text

MANY = 60
THINGS = ("p", "p", "x", "g", "h")


class TestRandomTables(unittest.TestCase):

    def setUp(self):
        self.random = random.Random(11)

    def levels(self, program):
        acts = random_acts(self.random, program.classes, 12)
        return (Level(program.classes), ByClass(program.classes, acts), Pairs(program.classes), DoingPairs(
            program.classes, acts))

    def views(self, level):
        names = level.classes.names
        return names if level.KIND == "class" else tuple((a, b) for a in names for b in ("",) + names)

    def case_of(self, function, handled):
        return (function.name, tuple(self.random.choice(THINGS) for _ in function.callbacks),
            self.random.choice(handled))

    def some_table(self, program, level):
        views = self.views(level)
        table = {}
        for _ in range(25):
            case = self.case_of(self.random.choice(program.functions), (None, None) + views)
            table[case] = [self.random.choice(("returns", "returns") + views) for _ in range(self.random.randrange(4))]
        return table

    def each(self, busy):
        for _ in range(MANY):
            program = random_program(self.random, busy)
            for level in self.levels(program):
                for function in program.functions:
                    yield program, level, function

    def test_looks(self):
        seen = {}
        for program, level, function in self.each(False):
            case = self.case_of(function, (None,) + self.views(level))
            table = self.some_table(program, level)
            try:
                plain = plain_look(program, level, case, table)
            except TooManyRuns:
                continue
            found = look(program, level, case, table)
            self.assertEqual((set(found.outcomes), set(found.cases), set(found.clauses)), plain,
                (program_text(program), case, table))
            for part in (found.outcomes, found.cases, found.clauses):
                self.assertEqual(len(part), len(set(part)))
            self.assertEqual(list(found.outcomes), sorted(found.outcomes, key=lambda x: (x != "returns", x)))
            self.assertEqual(found.cases, tuple(sorted(found.cases, key=lambda c: (c[:2], c[2] is not None, c[2]))))
            self.assertEqual(found.clauses, tuple(sorted(found.clauses)))
            seen[(len(found.outcomes), len(found.cases), len(found.clauses))] = True
        self.assertGreater(len(seen), 40)

    def test_tables_and_records(self):
        rows, barred = 0, 0
        for program, level, function in self.each(True):
            case = self.case_of(function, (None,) + (level.classes.names if level.KIND == "class" else ()))
            try:
                plain = plain_table(program, level, case)
            except TooManyRuns:
                continue
            table = table_of(program, level, case)
            self.assertEqual({one: set(entry) for one, entry in table.items()}, plain)
            self.assertEqual(outcomes(program, level, case), table[case])
            self.assertTrue(closed(program, level, table))
            self.check_least(program, level, case, table)
            for outcome in ("returns",) + self.views(level):
                if outcome in table[case]:
                    rows = max(rows, self.check_record(program, level, case, outcome))
                else:
                    self.assertEqual(told(Barred, record_of, program, level, case, outcome), (outcome,))
                    barred += 1
        self.assertGreater(rows, 8)
        self.assertGreater(barred, 100)

    def test_runs(self):
        """Each outcome of a run is in the table, for callbacks that can do everything and for its own acts alone."""
        found = 0
        while found < 400:
            program = random_program(self.random, found % 2 == 1)
            names = program.classes.names
            acts = Acts(*[(p, j, o) for p in ("p", "x") for j in (None,) + names for o in ("returns",) + names])
            for function in program.functions:
                case = self.case_of(function, (None, None) + names)
                rows = []
                try:
                    random_row(program, rows, case, self.random, 4)
                except (CannotGoOn, RecursionError):
                    continue
                found += 1
                played = play(program, Record(*rows))
                table = table_of(program, ByClass(program.classes, acts), case)
                for (one, _), outcome in zip(rows, played.outcomes):
                    if one in table:
                        self.assertIn(outcome, table[one])
                own = ByClass(program.classes, played.acts)
                self.assertIn(played.outcomes[-1], outcomes(program, own, case))

    def check_least(self, program, level, case, table):
        one = self.random.choice(list(table))
        if one != case:
            self.assertFalse(closed(program, level, {other: table[other] for other in table if other != one}))
        if table[one] != ():
            entry = list(table[one])
            entry.remove(self.random.choice(entry))
            self.assertFalse(closed(program, level, {**table, one: entry}))

    def check_record(self, program, level, case, outcome):
        record = record_of(program, level, case, outcome)
        played = play(program, record)
        last = len(record) - 1
        self.assertEqual(record.rows[-1][0], case)
        self.assertEqual(played.outcomes[last], outcome if outcome == "returns" else level.name_of(outcome))
        if level.KIND == "class":
            self.assertTrue(all(o in level.does(p, j) for p, j, o in played.acts.rows))
        elif outcome != "returns":
            self.assertEqual((played.front(last) + ("",))[:2], outcome)
        return len(record)


if __name__ == "__main__":
    unittest.main()
