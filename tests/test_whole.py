"""From text to answer, over the whole program: one program in several ways, and answers of several levels."""

import random
import unittest

from tests.lively_programs import lively_program
from tests.random_programs import random_acts, random_program
from tests.samples import FORMS, P1, P2, P3, P4
from whatleaves.acts import Acts
from whatleaves.alike import parted
from whatleaves.callbacks import acts_of
from whatleaves.desk import Desk
from whatleaves.errors import LeaveError, NoFunction, TooMany
from whatleaves.functions import Function
from whatleaves.idle import idle
from whatleaves.later import leaving
from whatleaves.lengths import lengths_of, longest
from whatleaves.levels import ByClass, Level
from whatleaves.programs import Program
from whatleaves.reader import read_function, read_program
from whatleaves.shop import Shop
from whatleaves.tables import can, outcomes
from whatleaves.texts import function_text, program_text
from whatleaves.trails import leaves, trails

REFUSED = ("drop nobody", "class a error", "class error a", "put def", "put def nobody /   break", "program def", "say", "undo  ",
    "class x nobody", "put def nobody /   call nowhere")


def rows_of(text):
    return text.replace("\n", " / ")


def questions(program):
    """Rows with questions about each function of a program."""
    rows = ["show", "idle"]
    for function in program.functions:
        case = " ".join((function.name,) + function.callbacks)
        acts = " ".join(f"{p}:{j}:{o}" for p in function.callbacks[:1] for j in ("-", "a") for o in ("a", "returns", "vacant"))
        acts = f" ; {acts}" if acts != "" else ""
        rows += [f"can {case}{acts}", f"can {case} @a{acts}", f"needs a {case}{acts}", f"bars vacant {case} @vacant{acts}",
            f"needs returns {case}{acts}", f"later {case}", f"later {case} @error", f"trails 2 {case}", f"longest {case}",
            f"leaves a.a {case}", f"close {function.name} ; a ; a ; {function.name}"]
    return rows


def answer_of(desk, row):
    try:
        return desk.say(row)
    except LeaveError as error:
        return (error.__class__.__name__, *vars(error).values())


def answers_of(desk, program):
    return [answer_of(desk, row) for row in questions(program)]


def rewritten(block, change):
    """A block in which each statement is changed to a tuple of statements, the inner ones first.

    change takes the statement with what was changed in it, and the statement as it was.
    """
    found = []
    for original in block:
        step = original
        if step[0] in ("handling", "either", "loop"):
            step = (step[0],) + tuple(rewritten(part, change) for part in step[1:])
        elif step[0] == "with":
            step = step[:4] + (rewritten(step[4], change),)
        elif step[0] == "try":
            clauses = tuple((names, n, rewritten(part, change)) for names, n, part in step[2])
            step = ("try", rewritten(step[1], change), clauses) + tuple(rewritten(part, change) for part in step[3:])
        found.extend(change(step, original))
    return tuple(found)


def has_return(block):
    return "return" in [step[0] for function in [Function("f", block=block)] for step in function.statements]


class TestOneProgramInSeveralWays(unittest.TestCase):

    def by_its_text(self, program):
        desk = Desk()
        desk.say("program " + rows_of(program_text(program)))
        return desk

    def one_by_one(self, program):
        desk = Desk()
        for row in program.classes.rows:
            desk.say("class " + " ".join(row))
        # Functions that are called by others, or by themselves, stand there as empty ones at first.
        for function in program.functions:
            empty = Function(function.name, *function.callbacks, block=(("pass",),))
            desk.say("put " + rows_of(function_text(empty)))
        for function in program.functions:
            desk.say("put " + rows_of(function_text(function)))
        return desk

    def past_refused_rows(self, program):
        desk = self.one_by_one(read_program("class q error\nclass a q\ndef other\n  raise q"))
        desk.say("program " + rows_of(program_text(program)))
        for row in REFUSED:
            try:
                desk.say(row)
            except LeaveError:
                continue
            desk.say("undo")
        for name in program.names[::-1]:
            try:
                desk.say(f"drop {name}")
            except LeaveError:
                continue
            desk.say("undo")
        desk.say("class later a")
        desk.say("put def later /   raise later")
        desk.say("undo")
        desk.say("undo")
        return desk

    def test_answers_are_alike(self):
        source = random.Random(13)
        programs = [read_program(text) for text in (P1, P2, P3, P4, FORMS)]
        programs += [random_program(source, k % 2 == 0) for k in range(8)] + [lively_program(source) for _ in range(8)]
        found = set()
        for program in programs:
            answers = answers_of(self.by_its_text(program), program)
            self.assertEqual(answers_of(self.one_by_one(program), program), answers)
            self.assertEqual(answers_of(self.past_refused_rows(program), program), answers)
            self.assertEqual(answers[0], rows_of(program_text(program)))
            found |= set(map(str, answers))
        self.assertGreater(len(found), 100)

    def test_other_ways_to_a_program(self):
        source = random.Random(14)
        for _ in range(20):
            program = lively_program(source)
            functions = [read_function(function_text(function)) for function in program.functions]
            self.assertEqual(Program.made(program.classes.rows, functions), program)
            shop = Shop(Program(program.classes))
            shop.take(read_program(program_text(program)))
            for function in functions:
                shop.put(function)
            self.assertEqual(shop.current, program)
            self.assertEqual(read_program(program_text(shop.current)), program)


class TestLevelsAgree(unittest.TestCase):

    def setUp(self):
        self.random = random.Random(15)

    def each(self, many):
        for k in range(many):
            program = random_program(self.random, k % 4 == 0) if k % 2 == 0 else lively_program(self.random)
            for function in program.functions:
                yield program, function

    def test_can_beside_later(self):
        several = 0
        for program, function in self.each(50):
            names = program.classes.names
            acts = Acts(*[(p, j, o) for p in function.callbacks for j in (None,) + names for o in ("returns",) + names])
            for handled in (None, "a", "c"):
                found = [name for name in can(program, acts, function.name, handled=handled) if name != "returns"]
                kind = None if handled is None else (handled,)
                later = leaving(program, program.case(function.name, handled=kind))
                self.assertTrue({(name,) for name in found} <= set(later))
                several += len(later) > len(found) > 0
        self.assertGreater(several, 20)

    def test_leaves_longest_and_trails(self):
        greatest = set()
        for program, function in self.each(60):
            case = (function.name, tuple(self.random.choice(("g", "h")) for _ in function.callbacks), None)
            most = longest(program, case)
            try:
                found = list(trails(program, case, 6))
            except TooMany:
                continue
            self.assertTrue(all(leaves(program, case, trail) for trail in found[:6]))
            if most is not None and most <= 6:
                self.assertEqual(max([len(trail) for trail in found], default=0), most)
            elif found != []:
                self.assertTrue(most is None or most >= len(found[-1]))
            by_class = {name for name in outcomes(program, Level(program.classes), case) if name != "returns"}
            self.assertTrue({trail[0] for trail in found} <= by_class)
            self.assertEqual({key[0] for key in lengths_of(program, case)[case] if key != "returns"}, by_class)
            greatest.add(most)
        self.assertGreater(len(greatest), 4)

    def test_functions_in_the_place_of_callbacks(self):
        for program, function in self.each(30):
            given = tuple(self.random.choice(("g", "h")) for _ in function.callbacks)
            if function.callbacks == ():
                continue
            acts = acts_of(program, dict(zip(function.callbacks, given)))
            for handled in (None, "b"):
                case = program.case(function.name, handled=handled)
                self.assertEqual(outcomes(program, ByClass(program.classes, acts), case), can(program, Acts(),
                    function.name, *given, handled=handled))

    def test_idle_clauses_may_be_left_out(self):
        # What stands in an idle clause does not matter, as long as it takes what it took.
        changed = 0
        for k in range(40):
            program = lively_program(self.random)
            for name, i, c in idle(program):
                function = program.function(name)
                statement = function.statements[i]

                def change(step, original):
                    if original is not statement:
                        return (step,)
                    clauses = tuple(clause if at != c else (clause[0], clause[1], (("raise", "b", "none"),)) for at, clause in
                        enumerate(step[2]))
                    return (step[:2] + (clauses,) + step[3:],)

                block = rewritten(function.block, change)
                other = program.with_function(Function(name, *function.callbacks, block=block))
                if statement[2][c][2] != (("raise", "b", "none"),):
                    self.assertNotEqual(other, program)
                for one in program.names:
                    self.assertEqual(leaving(program, program.case(one)), leaving(other, other.case(one)))
                changed += 1
        self.assertGreater(changed, 30)


class TestWrittenOtherwise(unittest.TestCase):

    def setUp(self):
        self.random = random.Random(16)

    def check(self, change_of, least):
        """Programs in which some statements are written otherwise are answered alike."""
        changed = 0
        for k in range(120):
            program = random_program(self.random, k % 4 == 0) if k % 2 == 0 else lively_program(self.random)
            try:
                other = program
                for function in program.functions:
                    block = rewritten(function.block, change_of(program))
                    other = other.with_function(Function(function.name, *function.callbacks, block=block))
            except NoFunction:
                continue
            if other != program:
                changed += 1
                self.check_alike(program, other)
        self.assertGreater(changed, least)

    def check_alike(self, one, other):
        acts = random_acts(self.random, one.classes, 8, ("p", "q"))
        self.assertIsNone(parted(one, other, acts), (program_text(one), program_text(other)))
        for function in one.functions:
            kind = self.random.choice((None, None) + one.classes.kinds())
            case = one.case(function.name, handled=kind)
            self.assertEqual(leaving(one, case), leaving(other, case))
            case = (function.name, tuple(self.random.choice(("g", "h")) for _ in function.callbacks), None)
            self.assertEqual(lengths_of(one, case)[case], lengths_of(other, case)[case])
            try:
                words = list(trails(one, case, 3)), list(trails(other, case, 3))
            except TooMany:
                continue
            self.assertEqual(*words)

    def test_a_call_written_out(self):
        def change_of(program):
            def change(step, _):
                if step[0] != "call" or step[1] not in ("g", "h") or self.random.random() < 0.3:
                    return (step,)
                block = program.function(step[1]).block
                return (step,) if has_return(block) else (("try", block, (), (), (("pass",),)),)
            return change
        self.check(change_of, 30)

    def test_a_with_written_as_a_call_and_a_try(self):
        def change(step, _):
            if step[0] != "with" or step[3] != ():
                return (step,)
            return (("call", step[1]), ("try", step[4], (), (), (("call", step[2]),)))
        self.check(lambda program: change, 15)

    def test_a_clause_of_two_classes_written_as_two(self):
        def change(step, _):
            if step[0] != "try":
                return (step,)
            clauses = tuple(((name,), n, block) for names, n, block in step[2] for name in names)
            return (step[:2] + (clauses,) + step[3:],)
        self.check(lambda program: change, 20)

    def test_an_else_and_a_finally_written_as_two_tries(self):
        def change(step, _):
            if step[0] != "try" or step[2] == () or step[4] == ():
                return (step,)
            return (("try", (step[:4] + ((),),), (), (), step[4]),)
        self.check(lambda program: change, 15)


if __name__ == "__main__":
    unittest.main()
