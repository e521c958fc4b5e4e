"""Programs of the greatest size, and deep chains of calls: each answer must come in good time."""

import random
import unittest

from whatleaves.acts import Acts
from whatleaves.alike import parted
from whatleaves.bars import bars, holds_bar
from whatleaves.callbacks import acts_of
from whatleaves.classes import Classes
from whatleaves.evidence import evidence, holds_list
from whatleaves.functions import Function
from whatleaves.levels import ByClass, Level
from whatleaves.lists import covered, lists_of
from whatleaves.looks import look
from whatleaves.paths import record_of
from whatleaves.plays import play
from whatleaves.programs import Program
from whatleaves.tables import closed, outcomes, table_of

LETTERS = "abcdefghijklmnopqrstuvwxyz"
CLASSES = Classes(*[(f"x{letter}", "error") for letter in LETTERS], *[(f"y{letter}", "xa", f"x{letter}") for letter in
    "bcde"])
NAMES = CLASSES.names
ACTS = Acts(("p", None, "xa"), ("p", None, "returns"), ("q", None, "returns"), ("p", "xa", "xb"), ("q", "xa", "xc"),
    ("p", "xb", "returns"), ("q", "xc", "xa"), ("q", None, "yb"))


def heads():
    """The names and callbacks of twelve functions, half of them with two callbacks."""
    return [(f"t{letter}", ("p", "q")) for letter in "abcdef"] + [(f"z{letter}", ()) for letter in "abcdef"]


def calling_program(seed):
    """Functions of 60 statements that call one another, each also from its clauses."""
    source = random.Random(seed)
    functions = []
    for name, callbacks in heads():
        things = callbacks + tuple(f"z{letter}" for letter in "abcdef")

        def call():
            if callbacks and source.random() < 0.2:
                return (("call", source.choice(callbacks)),)
            called, passed = source.choice(heads())
            return (("call", called) + tuple(source.choice(things) for _ in passed),)

        def either(many):
            return (("either", *[call() for _ in range(many)], (("raise", source.choice(NAMES)),), (("again",),)),)

        block = (("try", either(10), ((("xa", "xb"), "n", either(10)), (("error",), None, either(10) + ((
            "again", ),))), (), ()), ("loop", either(10)), ("either", *[(("pass",),)] * 4))
        functions.append(Function(name, *callbacks, block=block))
    return Program(CLASSES, *functions)


def rotating_program():
    """Each function takes each class and raises the next one, so that all cases come about."""
    functions = []
    for k in range(12):
        called = f"g{LETTERS[(k + 1) % 12]}"
        clauses = tuple(((NAMES[i],), None, (("raise", NAMES[(i + k) % 32]),)) for i in range(31, 1, -1))
        block = (("either", (("raise", NAMES[k]),), (("try", (("call", called),), clauses, (("call", called),), ((
            "either", (("call", called),), (("pass",),)),)),)),)
        functions.append(Function(f"g{LETTERS[k]}", block=block))
    return Program(CLASSES, *functions)


def nested_program():
    """Clauses within clauses and finally blocks within them, with all combinations of what is bound and handled."""
    everything = ("either", *[(("raise", name),) for name in NAMES[:16]], (("pass",),))
    functions = [Function("ga", block=(everything,))]
    for k in range(1, 6):
        called = f"g{LETTERS[k - 1]}"
        last = (("either", (("raise", NAMES[k], "n"),), (("again", "n"),), (("again", "m"),), (("call", called),), ((
            "pass",),)),)
        inner = (("try", (("call", called),), (), (), last),)
        inner = (("try", (("call", called),), ((("error",), "m", inner),), (), ()),)
        block = (("try", (("call", called),), ((("error",), "n", inner),), (), ()),)
        functions.append(Function(f"g{LETTERS[k]}", block=block))
    return Program(CLASSES, *functions)


class TestGreatest(unittest.TestCase):

    def test_size(self):
        program = calling_program(1)
        self.assertEqual((len(program), len(CLASSES), len(ACTS)), (12, 32, 8))
        self.assertEqual({len(function) for function in program.functions}, {60})

    def check_table(self, program, level, case):
        table = table_of(program, level, case)
        self.assertTrue(closed(program, level, table))
        found = look(program, level, case, table)
        self.assertEqual((found.outcomes, outcomes(program, level, case)), (table[case], table[case]))
        for outcome in (table[case][:1] + table[case][-1:]):
            record = record_of(program, level, case, outcome)
            self.assertEqual((record.rows[-1][0], play(program, record).outcomes[-1]), (case, outcome))
        return table

    def test_calling(self):
        program = calling_program(1)
        table = self.check_table(program, ByClass(CLASSES, ACTS), program.case("ta"))
        self.assertGreater(len(table), 500)
        self.check_table(program, Level(CLASSES), ("za", (), "xa"))
        self.assertGreater(len(acts_of(program, {"p": "za", "q": "zb"})), 60)

    def test_rotating(self):
        program = rotating_program()
        table = self.check_table(program, Level(CLASSES), ("ga", (), None))
        self.assertGreater(max(len(entry) for entry in table.values()), 30)
        self.assertGreater(len(table), 350)

    def test_nested(self):
        program = nested_program()
        table = self.check_table(program, Level(CLASSES), ("gf", (), None))
        self.assertGreater(len(table[("gf", (), None)]), 16)

    def test_lists(self):
        program = calling_program(3)
        case = program.case("tb")
        lists = lists_of(program, ACTS, case)
        self.assertTrue(covered(program, ACTS, lists))
        outcome = max(lists[case], key=lambda one: len(lists[case][one]))
        records, lists = evidence(program, ACTS, case, outcome)
        self.assertTrue(holds_list(program, ACTS, case, outcome, records, lists))
        found = bars(program, ACTS, case, outcome)
        for bar in found.sets:
            table = table_of(program, ByClass(CLASSES, ACTS - bar), case)
            self.assertTrue(holds_bar(program, ACTS, case, outcome, bar, table))

    def test_many_least_sets(self):
        # At each of four stages p must let one of two errors leave: 16 least sets, each with a record.
        stages = []
        for name in ("xd", "xe", "xf", "xg"):
            stage = ("try", (("call", "p"),), ((("xa", "xb"), None, (("pass",),)),), (("return",),), ())
            stages.append(("try", (("raise", name),), (((name,), None, (stage,)),), (), ()))
        program = Program(CLASSES, Function("f", "p", block=(*stages, ("raise", "xc"))))
        acts = Acts(*[("p", stage, name) for stage in ("xd", "xe", "xf", "xg") for name in ("xa", "xb")])
        case = ("f", ("p",), None)
        records, lists = evidence(program, acts, case, "xc")
        self.assertEqual((len(records), {len(one) for one in lists[case]["xc"].sets}), (16, {4}))
        self.assertTrue(holds_list(program, acts, case, "xc", records, lists))
        self.assertEqual({len(bar) for bar in bars(program, acts, case, "xc").sets}, {2})

    def test_parted(self):
        program = calling_program(4)
        self.assertIsNone(parted(program, program, ACTS))
        other = program.with_function(Function("zf", block=(("raise", "vacant"),)))
        case, outcome, acts = parted(program, other, ACTS)
        self.assertNotEqual(outcome in outcomes(program, ByClass(CLASSES, acts), case),
            outcome in outcomes(other, ByClass(CLASSES, acts), case))

    def test_deep_chains(self):
        # Each function is called while each of the classes is handled, one behind the other.
        clauses = tuple(((NAMES[i],), None, (("raise", NAMES[i + 1]),)) for i in range(2, 27))
        first = Function("f", block=(("try", (("either", (("raise", NAMES[2]),), (("call", "f"),)),), clauses, (), (
            ("either", (("pass",),), (("call", "f"),)),)),))
        program = Program(CLASSES, first)
        level = Level(CLASSES)
        for outcome in outcomes(program, level, ("f", (), None)):
            record = record_of(program, level, ("f", (), None), outcome)
            self.assertEqual(play(program, record).outcomes[-1], outcome)
        self.assertIn(NAMES[27], outcomes(program, level, ("f", (), None)))


if __name__ == "__main__":
    unittest.main()
