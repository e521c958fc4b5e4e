import unittest

from tests.samples import CALL_P, FORMS, P1, PASS, any_values, told
from whatleaves.classes import Classes
from whatleaves.errors import NoClass, NoFunction, NoName, NoProgram
from whatleaves.functions import Function
from whatleaves.programs import Program
from whatleaves.reader import read_program

PLAIN = Classes.plain()
G = Function("g", block=PASS)
F = Function("f", "p", block=CALL_P)


def fault(*block, others=()):
    """The reason and the place for which a program with a function f p with this block is refused, or None."""
    return told(NoProgram, Program, Classes(("a", "error")), Function("f", "p", block=block), G, *others)


class TestPrograms(unittest.TestCase):

    def test_attributes(self):
        program = Program(PLAIN, F, G)
        self.assertEqual((program.classes, program.functions, program.names), (PLAIN, (F, G), ("f", "g")))
        self.assertEqual(len(program), 2)
        empty = Program(PLAIN)
        self.assertEqual((empty.functions, empty.names, len(empty)), ((), (), 0))

    def test_made(self):
        rows = [("a", "error")]
        self.assertEqual(Program.made(rows, [F]), Program(Classes(*rows), F))
        self.assertEqual(Program.made(functions=(), rows=()), Program(PLAIN))
        self.assertEqual(told(NoClass, Program.made, [("a",)], [None]), ("row", 0))
        self.assertEqual(told(NoProgram, Program.made, [], [None]), ("function", 0))

    def test_contains(self):
        program = Program(PLAIN, F, Function("a", block=PASS))
        self.assertEqual([x for x in any_values() if x in program], ["a", "f"])

    def test_equal(self):
        program = Program(PLAIN, F, G)
        self.assertTrue(program == Program(PLAIN, F, G))
        self.assertFalse(program == Program(PLAIN, G, F))
        self.assertFalse(program == Program(Classes(("a", "error")), F, G))
        self.assertTrue(program != Program(PLAIN, F))
        found = [x for x in any_values() if Program(PLAIN, Function("f", block=PASS)) == x]
        self.assertEqual(found, [Program(PLAIN, Function("f", block=PASS))])

    def test_classes(self):
        for x in any_values():
            self.assertEqual(told(NoProgram, Program, x, None), ("function", 0) if isinstance(x,
                Classes) else ("classes", None))

    def test_function_refused(self):
        for x in any_values():
            if isinstance(x, Function):
                self.assertEqual(told(NoProgram, Program, PLAIN, F, x), ("function", 1))
                self.assertIsNone(told(NoProgram, Program, PLAIN, G, x))
            else:
                self.assertEqual(told(NoProgram, Program, PLAIN, G, x, F), ("function", 1))

    def test_twelve_functions(self):
        functions = [Function("f" + letter, block=PASS) for letter in "abcdeghijklmn"]
        self.assertEqual(len(Program(PLAIN, *functions[:12])), 12)
        self.assertEqual(told(NoProgram, Program, PLAIN, *functions), ("function", 12))
        self.assertEqual(told(NoProgram, Program, PLAIN, *functions[:12], None), ("function", 12))
        self.assertEqual(told(NoProgram, Program, PLAIN, *functions[:12], functions[0]), ("function", 12))

    def test_callback(self):
        p = Function("p", block=PASS)
        self.assertEqual(told(NoProgram, Program, PLAIN, G, F, p), ("callback", 1))
        self.assertEqual(told(NoProgram, Program, PLAIN, p, G, F), ("callback", 2))
        self.assertEqual(told(NoProgram, Program, PLAIN, Function("q", "r", "g", block=(("raise", "a"),)), G),
            ("callback", 0))

    def test_classes_in_statements(self):
        self.assertIsNone(fault(("raise", "a"), ("raise", "vacant", "none")))
        self.assertEqual(fault(("pass",), ("raise", "b")), ("statement", (0, 1)))
        self.assertEqual(fault(("raise", "b", "none")), ("statement", (0, 0)))
        for names in (("b",), ("a", "b")):
            clauses = ((("error",), None, PASS), (names, "n", (("again", "n"),)))
            self.assertEqual(fault(("loop", (("try", PASS, clauses, (), ()),))), ("statement", (0, 1)))
            self.assertEqual(fault(("with", "p", "g", names, PASS)), ("statement", (0, 0)))
        self.assertIsNone(fault(("with", "p", "g", ("a", "error"), PASS)))
        self.assertIsNone(fault(("try", (("raise", "vacant"),), ((("a", "vacant"), None, PASS),), (), ())))

    def test_calls(self):
        two = Function("two", "x", "y", block=PASS)
        for right in (("call", "p"), ("call", "g"), ("call", "f", "p"), ("call", "f", "g"), ("call", "two", "p", "p"),
                      ("call", "two", "g", "p"), ("with", "p", "p", (), PASS), ("with", "g", "p", (), PASS)):
            self.assertIsNone(fault(right, others=(two,)), right)
        for wrong in (("call", "x"), ("call", "q"), ("call", "error"), ("call", "p", "p"), ("call", "p", "g"),
            ("call", "g", "p"),
                      ("call", "f"), ("call", "f", "p", "p"), ("call", "f", "f"), ("call", "f", "two"), ("call", "f",
                      "x"),
                      ("call", "two", "p"), ("call", "two", "p", "q"), ("call", "two", "p", "p", "p"),
                      ("with", "f", "p", (), PASS), ("with", "p", "two", (), PASS), ("with", "p", "x", (), PASS),
                      ("with", "x", "g", (), PASS)):
            self.assertEqual(fault(wrong, others=(two,)), ("statement", (0, 0)), wrong)

    def test_later_functions_and_itself(self):
        self.assertIsNone(told(NoProgram, Program, PLAIN, Function("f", block=(("call", "f"), ("call", "g"))), G))

    def test_first_fault(self):
        bad = Function("f", "g", block=(("raise", "x"),))
        worse = Function("h", block=(("pass",), ("raise", "x")))
        self.assertEqual(told(NoProgram, Program, None, None), ("classes", None))
        self.assertEqual(told(NoProgram, Program, PLAIN, bad, G, None), ("function", 2))
        self.assertEqual(told(NoProgram, Program, PLAIN, worse, bad, G), ("callback", 1))
        self.assertEqual(told(NoProgram, Program, PLAIN, worse, bad), ("statement", (0, 1)))
        self.assertEqual(told(NoProgram, Program, PLAIN, bad, worse), ("statement", (0, 0)))

    def test_function(self):
        program = read_program(P1)
        self.assertEqual(program.function("f"), program.functions[0])
        self.assertEqual(program.function(name="f").callbacks, ("p",))
        for x in any_values():
            expected = None if isinstance(x, str) and x == "f" else (x,)
            self.assertEqual(told(NoName, program.function, x), expected)

    def test_with_function(self):
        program = Program(PLAIN, F, G)
        other = Function("f", block=(("return",),))
        self.assertEqual(program.with_function(other), Program(PLAIN, other, G))
        third = Function("h", block=(("call", "g"),))
        self.assertEqual(program.with_function(function=third), Program(PLAIN, F, G, third))
        self.assertEqual(program, Program(PLAIN, F, G))
        self.assertEqual(told(NoProgram, program.with_function, Function("p", block=PASS)), ("callback", 0))
        self.assertEqual(told(NoProgram, program.with_function, Function("h", block=(("call", "x"),))), ("statement",
            (2, 0)))
        full = Program(PLAIN, *[Function("f" + letter, block=PASS) for letter in "abcdeghijklm"])
        self.assertEqual(told(NoProgram, full.with_function, G), ("function", 12))
        self.assertEqual(told(NoProgram, program.with_function, None), ("function", 2))
        self.assertEqual(len(full.with_function(Function("fa", block=(("return",),)))), 12)

    def test_with_classes(self):
        program = read_program(FORMS)
        more = program.with_classes(("x", "a", "b"), ("y", "x"))
        self.assertEqual(more.classes.names, ("error", "vacant", "a", "b", "x", "y"))
        self.assertEqual(more.functions, program.functions)
        self.assertEqual(program, read_program(FORMS))
        self.assertEqual(told(NoClass, program.with_classes, ("x", "a"), ("a", "x")), ("name", 3))

    def test_without(self):
        program = Program(PLAIN, F, G)
        self.assertEqual(program.without("f"), Program(PLAIN, G))
        self.assertEqual(program.without(name="g"), Program(PLAIN, F))
        caller = Program(PLAIN, Function("f", block=(("call", "g"),)), G)
        self.assertEqual(told(NoProgram, caller.without, "g"), ("statement", (0, 0)))
        for x in any_values():
            expected = None if isinstance(x, str) and x == "f" else (x,)
            self.assertEqual(told(NoName, program.without, x), expected)

    def test_later_faults_of_functions(self):
        self.assertEqual(told(NoFunction, Function, "f", "f", block=PASS), ("callback", 0))


if __name__ == "__main__":
    unittest.main()
