"""Programs of the greatest size, and deep chains of calls: each answer must come in good time."""

import random
import unittest

from tests.samples import told
from whatleaves.acts import Acts
from whatleaves.alike import parted
from whatleaves.bars import bars, holds_bar
from whatleaves.callbacks import acts_of
from whatleaves.classes import Classes
from whatleaves.clients import client, holds_client
from whatleaves.closing import closing
from whatleaves.desk import Desk
from whatleaves.errors import TooMany
from whatleaves.evidence import evidence, holds_list
from whatleaves.functions import Function
from whatleaves.growth import grows, growth
from whatleaves.idle import idle
from whatleaves.later import leaving
from whatleaves.lengths import length_closed, lengths_of, longest
from whatleaves.levels import ByClass, Level
from whatleaves.lists import covered, lists_of
from whatleaves.looks import look
from whatleaves.paths import record_of
from whatleaves.plays import play
from whatleaves.programs import Program
from whatleaves.tables import closed, outcomes, table_of
from whatleaves.texts import program_text
from whatleaves.trails import ByTrail, leaves, trails

LETTERS = "abcdefghijklmnopqrstuvwxyz"
CLASSES = Classes(*[(f"x{letter}", "error") for letter in LETTERS], *[(f"y{letter}", "xa", f"x{letter}") for letter in
    "bcde"])
NAMES = CLASSES.names
ACTS = Acts(("p", None, "xa"), ("p", None, "returns"), ("q", None, "returns"), ("p", "xa", "xb"), ("q", "xa", "xc"),
    ("p", "xb", "returns"), ("q", "xc", "xa"), ("q", None, "yb"))


def heads():
    """The names and callbacks of twelve functions, half of them with two callbacks."""
    return [(f"t{letter}", ("p", "q")) for letter in "abcdef"] + [(f"z{letter}", ()) for letter in "abcdef"]


def calling_program(seed):
    """Functions of 60 statements that call one another, each also from its clauses."""
    source = random.Random(seed)
    functions = []
    for name, callbacks in heads():
        things = callbacks + tuple(f"z{letter}" for letter in "abcdef")

        def call():
            if callbacks and source.random() < 0.2:
                return (("call", source.choice(callbacks)),)
            called, passed = source.choice(heads())
            return (("call", called) + tuple(source.choice(things) for _ in passed),)

        def either(many):
            return (("either", *[call() for _ in range(many)], (("raise", source.choice(NAMES)),), (("again",),)),)

        block = (("try", either(10), ((("xa", "xb"), "n", either(10)), (("error",), None, either(10) + ((
            "again", ),))), (), ()), ("loop", either(10)), ("either", *[(("pass",),)] * 4))
        functions.append(Function(name, *callbacks, block=block))
    return Program(CLASSES, *functions)


def rotating_program():
    """Each function takes each class and raises the next one, so that all cases come about."""
    functions = []
    for k in range(12):
        called = f"g{LETTERS[(k + 1) % 12]}"
        clauses = tuple(((NAMES[i],), None, (("raise", NAMES[(i + k) % 32]),)) for i in range(31, 1, -1))
        block = (("either", (("raise", NAMES[k]),), (("try", (("call", called),), clauses, (("call", called),), ((
            "either", (("call", called),), (("pass",),)),)),)),)
        functions.append(Function(f"g{LETTERS[k]}", block=block))
    return Program(CLASSES, *functions)


def nested_program():
    """Clauses within clauses and finally blocks within them, with all combinations of what is bound and handled."""
    everything = ("either", *[(("raise", name),) for name in NAMES[:16]], (("pass",),))
    functions = [Function("ga", block=(everything,))]
    for k in range(1, 6):
        called = f"g{LETTERS[k - 1]}"
        last = (("either", (("raise", NAMES[k], "n"),), (("again", "n"),), (("again", "m"),), (("call", called),), ((
            "pass",),)),)
        inner = (("try", (("call", called),), (), (), last),)
        inner = (("try", (("call", called),), ((("error",), "m", inner),), (), ()),)
        block = (("try", (("call", called),), ((("error",), "n", inner),), (), ()),)
        functions.append(Function(f"g{LETTERS[k]}", block=block))
    return Program(CLASSES, *functions)


class TestGreatest(unittest.TestCase):

    def test_size(self):
        program = calling_program(1)
        self.assertEqual((len(program), len(CLASSES), len(ACTS)), (12, 32, 8))
        self.assertEqual({len(function) for function in program.functions}, {60})

    def check_table(self, program, level, case):
        table = table_of(program, level, case)
        self.assertTrue(closed(program, level, table))
        found = look(program, level, case, table)
        self.assertEqual((found.outcomes, outcomes(program, level, case)), (table[case], table[case]))
        for outcome in (table[case][:1] + table[case][-1:]):
            record = record_of(program, level, case, outcome)
            self.assertEqual((record.rows[-1][0], play(program, record).outcomes[-1]), (case, outcome))
        return table

    def test_calling(self):
        program = calling_program(1)
        table = self.check_table(program, ByClass(CLASSES, ACTS), program.case("ta"))
        self.assertGreater(len(table), 500)
        self.check_table(program, Level(CLASSES), ("za", (), "xa"))
        self.assertGreater(len(acts_of(program, {"p": "za", "q": "zb"})), 60)

    def test_rotating(self):
        program = rotating_program()
        table = self.check_table(program, Level(CLASSES), ("ga", (), None))
        self.assertGreater(max(len(entry) for entry in table.values()), 30)
        self.assertGreater(len(table), 350)

    def test_nested(self):
        program = nested_program()
        table = self.check_table(program, Level(CLASSES), ("gf", (), None))
        self.assertGreater(len(table[("gf", (), None)]), 16)

    def test_lists(self):
        program = calling_program(3)
        case = program.case("tb")
        lists = lists_of(program, ACTS, case)
        self.assertTrue(covered(program, ACTS, lists))
        outcome = max(lists[case], key=lambda one: len(lists[case][one]))
        records, lists = evidence(program, ACTS, case, outcome)
        self.assertTrue(holds_list(program, ACTS, case, outcome, records, lists))
        found = bars(program, ACTS, case, outcome)
        for bar in found.sets:
            table = table_of(program, ByClass(CLASSES, ACTS - bar), case)
            self.assertTrue(holds_bar(program, ACTS, case, outcome, bar, table))

    def test_many_least_sets(self):
        # At each of four stages p must let one of two errors leave: 16 least sets, each with a record.
        stages = []
        for name in ("xd", "xe", "xf", "xg"):
            stage = ("try", (("call", "p"),), ((("xa", "xb"), None, (("pass",),)),), (("return",),), ())
            stages.append(("try", (("raise", name),), (((name,), None, (stage,)),), (), ()))
        program = Program(CLASSES, Function("f", "p", block=(*stages, ("raise", "xc"))))
        acts = Acts(*[("p", stage, name) for stage in ("xd", "xe", "xf", "xg") for name in ("xa", "xb")])
        case = ("f", ("p",), None)
        records, lists = evidence(program, acts, case, "xc")
        self.assertEqual((len(records), {len(one) for one in lists[case]["xc"].sets}), (16, {4}))
        self.assertTrue(holds_list(program, acts, case, "xc", records, lists))
        self.assertEqual({len(bar) for bar in bars(program, acts, case, "xc").sets}, {2})

    def test_parted(self):
        program = calling_program(4)
        self.assertIsNone(parted(program, program, ACTS))
        other = program.with_function(Function("zf", block=(("raise", "vacant"),)))
        case, outcome, acts = parted(program, other, ACTS)
        self.assertNotEqual(outcome in outcomes(program, ByClass(CLASSES, acts), case),
            outcome in outcomes(other, ByClass(CLASSES, acts), case))

    def test_deep_chains(self):
        # Each function is called while each of the classes is handled, one behind the other.
        clauses = tuple(((NAMES[i],), None, (("raise", NAMES[i + 1]),)) for i in range(2, 27))
        first = Function("f", block=(("try", (("either", (("raise", NAMES[2]),), (("call", "f"),)),), clauses, (), (
            ("either", (("pass",),), (("call", "f"),)),)),))
        program = Program(CLASSES, first)
        level = Level(CLASSES)
        for outcome in outcomes(program, level, ("f", (), None)):
            record = record_of(program, level, ("f", (), None), outcome)
            self.assertEqual(play(program, record).outcomes[-1], outcome)
        self.assertIn(NAMES[27], outcomes(program, level, ("f", (), None)))


SIX = Classes(("xa", "error"), ("xb", "error"), ("xc", "error"), ("xd", "error"))


def six_program(seed):
    """Functions of 55 statements over six classes that call one another and their callbacks, each also from clauses."""
    functions = []
    for function in calling_program(seed).functions:
        block = named_anew(function.block[:2], {name: SIX.names[k % 6] for k, name in enumerate(NAMES)})
        functions.append(Function(function.name, *function.callbacks, block=block))
    return Program(SIX, *functions)


def named_anew(thing, words):
    """A block with other names of classes, each once in each tuple of classes."""
    if not isinstance(thing, tuple):
        return words.get(thing, thing)
    found = tuple(named_anew(part, words) for part in thing)
    return tuple(dict.fromkeys(found)) if found and all(part in SIX.names for part in found) else found


def taken_by_turns(many):
    """Kinds that are bound, handled and bound again, in all combinations."""
    functions = []
    for k in range(many):
        last = (("either", (("raise", SIX.names[k % 6], "n"),), (("again", "n"),), (("again", "m"),), (("call", "p"),), ((
            "pass",),)),)
        block = (("try", (("call", "p"),), (), (), last),)
        for n in "mn":
            block = (("try", (("call", "p"),), ((("error",), n, block),), (), ()),)
        functions.append(Function(f"g{LETTERS[k]}", "p", block=block))
    return Program(SIX, *functions)


def doubling_program():
    """Twelve functions each of which makes trails eight times as long as those of the one before."""
    functions = [Function("ga", block=(("either", (("raise", "xa"),), (("raise", "xb", "none"),)),))]
    for k in range(1, 12):
        call = ("call", f"g{LETTERS[k - 1]}")
        block = (call,)
        for _ in range(7):
            block = (("try", block, ((("error",), None, (call,)),), (), ()),)
        functions.append(Function(f"g{LETTERS[k]}", block=block))
    return Program(CLASSES, *functions)


class TestGreatestLater(unittest.TestCase):

    def test_leaving_and_clients(self):
        for program, name in ((six_program(1), "ta"), (six_program(2), "tc"), (taken_by_turns(4), "ga")):
            case = program.case(name)
            found = leaving(program, case)
            self.assertGreater(len(found), 20)
            for kind in (found[0], found[-1], max(found, key=len)):
                one = client(program, case, kind)
                self.assertTrue(holds_client(program, case, kind, one))

    def test_closing(self):
        program = six_program(3)
        self.assertEqual((len(program), {len(function) for function in program.functions}), (12, {55}))
        wraps, leaks = closing(program, ("ta", "tb", "za", "zb"), ("xa",), "xa", ("za", "zb", "ta", "tb"))
        self.assertEqual((wraps, len(leaks)), (("za", "zb", "ta", "tb"), 15))

    def test_idle(self):
        self.assertEqual(idle(six_program(3)), ())
        self.assertEqual(idle(taken_by_turns(12)), ())

    def test_desk(self):
        desk = Desk()
        text = program_text(six_program(4)).replace("\n", " / ")
        self.assertEqual(desk.say("program " + text), "ok")
        self.assertEqual(desk.say("show"), text)
        self.assertGreater(len(desk.say("later ta").split(" ")), 20)
        self.assertEqual(desk.say("longest za"), "endless")
        self.assertEqual(desk.say("leaves xa.xb.xc.xd.xa.xb.xc.xd.xa.xb.xc.xd za"), "yes")


class TestGreatestLengths(unittest.TestCase):

    def test_calling(self):
        program, case = calling_program(1), ("za", (), None)
        table = lengths_of(program, case)
        self.assertGreater(len(table), 3000)
        self.assertTrue(length_closed(program, table))
        record, inner, outer = growth(program, case)
        self.assertTrue(grows(program, record, inner, outer))
        for most in (2, 6):
            self.assertEqual(told(TooMany, list, trails(program, case, most)), ("trails", 100))

    def test_rotating(self):
        program, case = rotating_program(), ("ga", (), None)
        self.assertIsNone(longest(program, case))
        record, inner, outer = growth(program, case)
        self.assertTrue(grows(program, record, inner, outer))
        self.assertEqual([len(trail) for trail in trails(program, case, 2)], [1, 1, 2, 2, 2, 2])
        self.assertTrue(leaves(program, case, ("error",)))
        self.assertFalse(leaves(program, case, ("xa",) * 12))

    def test_nested(self):
        program, case = nested_program(), ("gf", (), None)
        table = lengths_of(program, case)
        self.assertTrue(length_closed(program, table))
        self.assertIsNone(growth(program, case))
        self.assertGreater(longest(program, case), 100)
        self.assertEqual(len(list(trails(program, case, 1))), 16)
        self.assertTrue(leaves(program, case, ("error",)))

    def test_doubling(self):
        program, case = doubling_program(), ("gl", (), None)
        self.assertEqual(longest(program, case), 8 ** 11)
        table = lengths_of(program, case)
        self.assertTrue(length_closed(program, table))
        self.assertEqual(table[case], {("xa", False): 8 ** 11, ("xb", False): 1})
        record = record_of(program, ByTrail(CLASSES, ("xb",)), case, ("xb", 0))
        self.assertEqual(play(program, record).lengths[-1], 1)
        self.assertFalse(leaves(program, case, ("xa",)))

    def test_trails_that_are_all_taken(self):
        # Six times one of seven errors while the last one is handled, and none of these trails leaves.
        raising = ("either", *[(("raise", name),) for name in NAMES[:7]])
        block = (raising,)
        for _ in range(5):
            block = (("try", block, ((("error",), None, (raising,)),), (), ()),)
        block = (("try", block, ((("error",), None, (("raise", "xa", "none"),)),), (), ()),)
        program = Program(CLASSES, *[Function(f"f{letter}", block=block) for letter in "abcdefghijkl"])
        self.assertEqual(list(trails(program, ("fa", (), None), 6)), [("xa",)])


if __name__ == "__main__":
    unittest.main()
