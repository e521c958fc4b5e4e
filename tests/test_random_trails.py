"""Later classes, trails, lengths and growth of random programs, held against slower ways and against one another."""

import random
import unittest

from tests.lively_programs import lively_program
from tests.plain_lengths import plain_length_look, plain_lengths
from tests.plain_looks import TooManyRuns
from tests.plain_runs import CannotGoOn, random_row
from tests.random_programs import random_program
from tests.samples import told
from whatleaves.acts import Acts
from whatleaves.clients import Client, client, holds_client
from whatleaves.errors import Barred, TooMany
from whatleaves.growth import grown, grows, growth
from whatleaves.later import leaving
from whatleaves.lengths import length_closed, length_look, lengths_of, longest
from whatleaves.levels import ByClass, Level
from whatleaves.paths import record_of
from whatleaves.plays import play
from whatleaves.records import Record
from whatleaves.tables import can, closed, outcomes, table_of
from whatleaves.texts import program_text
from whatleaves.trails import ByTrail, ByWord, leaves, trails

MANY = 150


def trails_in_table(program, case, most):
    """The trails among the views of a table at the level ByWord, and those of them that leave the case."""
    table = table_of(program, ByWord(program.classes, most), case)
    views = [view for one, entry in table.items() for view in (one[2],) + entry]
    seen = {view for view in views if view is not None and view != "returns" and view[-1] != ""}
    return seen, sorted(seen & set(table[case]), key=lambda word: (len(word), word))


class TestRandomTrails(unittest.TestCase):

    def setUp(self):
        self.random = random.Random(5)

    def case_of(self, function, handled=(None,)):
        return (function.name, tuple(self.random.choice(("p", "g", "h")) for _ in function.callbacks),
            self.random.choice(handled))

    def each(self, many=MANY):
        for _ in range(many):
            program = lively_program(self.random)
            for function in program.functions:
                yield program, function

    def test_trails(self):
        found, refused = 0, 0
        for program, function in self.each():
            case, most = self.case_of(function), self.random.choice((1, 2, 3, 3, 3, 4, 4, 5, 6))
            if most == 6 and found > 300:
                most = 3
            seen, words = trails_in_table(program, case, most)
            if len(seen) > 100:
                refused += 1
                self.assertEqual(told(TooMany, list, trails(program, case, most)), ("trails", 100))
                continue
            self.assertEqual(list(trails(program, case, most)), words, (program_text(program), case, most))
            found += len(words)
        self.assertGreater(found, 900)
        self.assertGreater(refused, 3)

    def test_leaves(self):
        shown, barred = 0, 0
        for program, function in self.each(60):
            case = self.case_of(function)
            try:
                words = list(trails(program, case, 3))
            except TooMany:
                continue
            names = program.classes.names
            others = [tuple(self.random.choice(names) for _ in range(self.random.choice((1, 2, 3)))) for _ in range(8)]
            for word in words[:8] + others:
                self.assertEqual(leaves(program, case, word), word in words)
                level = ByTrail(program.classes, word)
                if word in words:
                    record = record_of(program, level, case, (word[0], 0))
                    self.assertEqual(play(program, record).front(len(record) - 1), word)
                    self.assertFalse(play(program, record).opens[-1])
                    shown += 1
                else:
                    self.assertTrue(closed(program, level, table_of(program, level, case)))
                    barred += 1
        self.assertGreater(shown, 300)
        self.assertGreater(barred, 300)

    def test_runs(self):
        """The trails of runs leave, and are no longer than the longest one."""
        found = 0
        while found < 200:
            program = lively_program(self.random)
            for function in program.functions:
                case = (function.name, tuple(self.random.choice(("g", "h")) for _ in function.callbacks), None)
                rows = []
                try:
                    random_row(program, rows, case, self.random, 5)
                except (CannotGoOn, RecursionError):
                    continue
                played = play(program, Record(*rows))
                length = played.lengths[-1]
                if length is None:
                    continue
                found += 1
                most = longest(program, case)
                self.assertTrue(most is None or length <= most)
                if length <= 12:
                    self.assertTrue(leaves(program, case, played.front(len(rows) - 1)))

    def test_length_looks(self):
        seen = set()
        for program, function in self.each(100):
            names = program.classes.names
            case = self.case_of(function, (None,) + names)
            table = {}
            for _ in range(30):
                one = self.case_of(self.random.choice(program.functions), (None, None) + names)
                keys = ["returns"] + [(name, is_open) for name in names for is_open in (False, one[2] is not None)]
                table[one] = {key: 0 if key == "returns" else self.random.choice((0, 1, 2, 5, 11, None))
                    for key in self.random.sample(keys, self.random.randrange(4))}
            try:
                plain = plain_length_look(program, case, table)[0]
            except TooManyRuns:
                continue
            self.assertEqual(length_look(program, case, table), plain, (program_text(program), case, table))
            again = length_look(program, case, {case: plain})
            allowed = all(key in plain and (plain[key] is None or (again[key] is not None and again[key] <= plain[
                key])) for key in again)
            self.assertEqual(length_closed(program, {case: plain}), allowed and plain_length_look(program, case, {
                case: plain})[1] <= {case})
            seen.add(tuple(sorted(map(str, plain.values()))))
        self.assertGreater(len(seen), 40)

    def test_lengths_and_growth(self):
        greatest = {}
        for program, function in self.each():
            case = self.case_of(function)
            table = lengths_of(program, case)
            self.assertEqual(set(table), set(table_of(program, Level(program.classes), case)))
            self.assertEqual(table, plain_lengths(program, list(table)), (program_text(program), case))
            self.assertTrue(length_closed(program, table))
            self.check_least(program, case, table)
            most = longest(program, case)
            greatest[most] = greatest.get(most, 0) + 1
            found = growth(program, case)
            self.assertEqual(found is None, most is not None)
            if found is not None:
                self.check_growth(program, case, *found)
            elif most <= 6:
                self.check_longest(program, case, most)
        self.assertGreater(greatest[None], 60)
        self.assertGreater(len(greatest), 5)

    def check_least(self, program, case, table):
        one = self.random.choice(list(table))
        if one != case:
            self.assertFalse(length_closed(program, {other: table[other] for other in table if other != one}))
        keys = [key for key in table[one] if key != "returns"]
        if keys != []:
            key = self.random.choice(keys)
            less = 40 if table[one][key] is None else table[one][key] - 1
            if less >= 0:
                self.assertFalse(length_closed(program, {**table, one: {**table[one], key: less}}))
            self.assertFalse(length_closed(program, {**table, one: {k: table[one][k] for k in table[one] if k != key}}))

    def check_growth(self, program, case, record, inner, outer):
        self.assertEqual(record.rows[-1][0], case)
        for _ in range(3):
            self.assertTrue(grows(program, record, inner, outer))
            record, inner, outer = grown(record, inner, outer), outer, 2 * outer - inner

    def check_longest(self, program, case, most):
        try:
            words = list(trails(program, case, 6))
        except TooMany:
            return
        self.assertEqual(max([len(word) for word in words], default=0), most)


class TestRandomLater(unittest.TestCase):

    def setUp(self):
        self.random = random.Random(6)

    def program(self, k):
        return random_program(self.random, k % 3 == 0) if k % 2 == 0 else lively_program(self.random)

    def case_of(self, program, handled=(None,)):
        function = self.random.choice(program.functions)
        return (function.name, tuple(self.random.choice(("p", "q", "h")) for _ in function.callbacks),
            self.random.choice(handled))

    def test_leaving_beside_classes_that_are_made(self):
        sizes = set()
        for k in range(80):
            program = self.program(k)
            kinds = program.classes.kinds()
            case = self.case_of(program)
            rows = [("k" + "xyz"[k % 3] + "abcdefghij"[k // 3], *kind) for k, kind in enumerate(kinds) if len(kind) > 1]
            whole = program.with_classes(*rows)
            names = whole.classes.names
            acts = Acts(*[(p, j, o) for p in ("p", "q") for j in (None,) + names for o in ("returns",) + names])
            made = {whole.classes.kind_of(o, program.classes) for o in can(whole, acts, *case[:1], *case[1]) if
                o != "returns"}
            found = leaving(program, case)
            self.assertEqual(found, tuple(sorted(made)), (program_text(program), case))
            self.assertTrue(set(outcomes(program, ByClass(program.classes, acts), case)) - {"returns"} <= {kind[0] for
                kind in found if len(kind) == 1})
            sizes.add(len(found))
        self.assertGreater(len(sizes), 4)

    def test_leaving_beside_classes_with_any_bases(self):
        found = 0
        while found < 150:
            program = self.program(found)
            rows = []
            for name in ("kone", "ktwo", "kthree", "kfour"):
                bases = program.classes.names + tuple(row[0] for row in rows)
                rows.append((name, *self.random.sample(bases, self.random.choice((1, 2, 2, 3)))))
            whole = program.with_classes(*rows)
            case = self.case_of(program)
            made = []
            try:
                random_row(whole, made, case, self.random, 4)
            except (CannotGoOn, RecursionError):
                continue
            record = Record(*made)
            outcome = play(whole, record).outcomes[-1]
            if outcome == "returns":
                continue
            found += 1
            kind = whole.classes.kind_of(outcome, program.classes)
            self.assertIn(kind, leaving(program, case))
            one = Client(tuple(rows), record)
            self.assertTrue(holds_client(program, case, kind, one))
            for other in program.classes.kinds():
                self.assertEqual(holds_client(program, case, other, one), other == kind)

    def test_clients(self):
        rows, barred = set(), 0
        for k in range(60):
            program = self.program(k)
            kinds = program.classes.kinds()
            case = self.case_of(program, (None, None) + kinds)
            found = leaving(program, case)
            for kind in kinds:
                if kind in found:
                    one = client(program, case, kind)
                    self.assertTrue(holds_client(program, case, kind, one))
                    rows.add(len(one.rows))
                else:
                    self.assertEqual(told(Barred, client, program, case, kind), (kind,))
                    barred += 1
        self.assertGreater(len(rows), 1)
        self.assertGreater(barred, 200)


if __name__ == "__main__":
    unittest.main()
