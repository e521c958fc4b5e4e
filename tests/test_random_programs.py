import random
import unittest

from tests.plain_runs import CannotGoOn, Error, front_of, random_row, run_of_row
from tests.random_programs import random_program
from tests.samples import told
from whatleaves.errors import LeaveError, NoRecord
from whatleaves.plays import play
from whatleaves.reader import read_program
from whatleaves.records import Record
from whatleaves.statements import walk
from whatleaves.texts import program_text

MANY = 1500


class TestRandomPrograms(unittest.TestCase):

    def setUp(self):
        self.random = random.Random(7)

    def test_texts(self):
        for _ in range(MANY):
            program = random_program(self.random)
            text = program_text(program)
            self.assertEqual(read_program(text), program)
            self.assertEqual(program_text(read_program(text)), text)
            for function in program.functions:
                self.assertEqual(len(list(walk(function.block))), len(function))

    def test_changed_texts(self):
        # A program has one text only: what is read must be written in the same way, and the rest must be refused.
        kept = 0
        for _ in range(MANY):
            text = self.changed(program_text(random_program(self.random)))
            try:
                program = read_program(text)
            except LeaveError:
                continue
            self.assertEqual(program_text(program), text)
            kept += 1
        self.assertGreater(kept, 20)
        self.assertLess(kept, MANY - 20)

    def changed(self, text):
        """The text with a row or a sign put in, left out, or moved."""
        rows = text.split("\n")
        k = self.random.randrange(len(rows))
        way = self.random.randrange(5)
        if way == 0:
            del rows[k]
        elif way == 1:
            rows.insert(k, self.random.choice(rows))
        elif way == 2:
            rows[k] = self.random.choice(("  " + rows[k], rows[k][2:], rows[k] + " ", rows[k] + " a", ""))
        elif way == 3:
            rows = rows[:k]
        text = "\n".join(rows)
        at = self.random.randrange(len(text) + 1)
        return text[:at] + self.random.choice(" \n\ta") + text[at:] if way == 4 else text

    def records(self):
        """Programs with random records that can be done."""
        found = 0
        while found < MANY:
            program = random_program(self.random)
            for _ in range(4):
                function = self.random.choice(program.functions)
                given = tuple(self.random.choice(("p", "x", "g", "h")) for _ in function.callbacks)
                handled = self.random.choice((None, None) + program.classes.names)
                rows = []
                try:
                    random_row(program, rows, program.case(function.name, *given, handled=handled), self.random, 4)
                except (CannotGoOn, RecursionError):
                    continue
                found += 1
                yield program, rows

    def test_played_as_plain_runs(self):
        seen = {}
        for program, rows in self.records():
            played = play(program, Record(*rows))
            for k, ((_, _, handled), _) in enumerate(rows):
                at_call = None if handled is None else Error(handled, None)
                error = run_of_row(program, rows, k, at_call)
                if error is None:
                    expected = ("returns", None, None, None)
                else:
                    front, is_open = front_of(error, at_call)
                    expected = (error.name, front, is_open, len(front))
                found = (played.outcomes[k], played.front(k), played.opens[k], played.lengths[k])
                self.assertEqual(found, expected, program_text(program))
                seen[expected[1:]] = True
        self.assertGreater(len(seen), 40)

    def test_changed_choices(self):
        # Whatever the choices are, a record is either played or refused by NoRecord.
        for program, rows in self.records():
            k = self.random.randrange(len(rows))
            case, choices = rows[k]
            if len(choices) > 0:
                at = self.random.randrange(len(choices))
                other = self.random.choice((0, 1, 2, "returns", "a", "x", (0,), (k,), (9,)))
                choices = choices[:at] + (other,) + choices[at + 1:]
            raised = told(NoRecord, play, program, Record(*rows[:k], (case, choices), *rows[k + 1:]))
            self.assertTrue(raised is None or k <= raised[0] < len(rows))

    def test_a_choice_is_missing_or_left_over(self):
        for program, rows in self.records():
            last = len(rows) - 1
            case, choices = rows[last]
            self.assertEqual(told(NoRecord, play, program, Record(*rows[:last], (case, choices + (0,)))), (last,))
            if len(choices) > 0:
                self.assertEqual(told(NoRecord, play, program, Record(*rows[:last], (case, choices[:-1]))), (last,))


if __name__ == "__main__":
    unittest.main()
