import unittest

from tests.samples import P1, P3, P4, nested, told
from whatleaves.errors import NoFunction
from whatleaves.functions import Function
from whatleaves.later import leaving
from whatleaves.programs import Program
from whatleaves.reader import read_function, read_program
from whatleaves.texts import function_text
from whatleaves.wraps import wrapped

ONE, THREE, FOUR = [read_program(text) for text in (P1, P3, P4)]


def function_of(many, name="f"):
    """A function with so many statements."""
    return Function(name, block=(("pass",),) * many)


class TestWrapped(unittest.TestCase):

    def test_one_clause(self):
        program = wrapped(program=ONE, names=("f",), allowed=(), made="b")
        block = ONE.function("f").block
        self.assertEqual(program, ONE.with_function(Function("f", "p", block=(("try", block, ((("error",), None, (("raise",
            "b"),)),), (), ()),))))
        self.assertEqual(leaving(program, program.case("f")), (("b",),))

    def test_two_clauses(self):
        program = wrapped(FOUR, ("f",), ("z", "vacant"), "z")
        found = program.function("f")
        self.assertEqual(found.callbacks, ("p",))
        self.assertEqual(found.block, (("try", FOUR.function("f").block, ((("z", "vacant"), None, (("again",),)), ((
            "error",), None, (("raise", "z"),))), (), ()),))
        self.assertEqual(leaving(program, program.case("f")), (("a", "vacant"), ("a", "vacant", "z"), ("a", "z"), ("z",)))

    def test_text(self):
        program = wrapped(read_program("class a error\ndef f p\n  call p"), ("f",), ("a",), "a")
        self.assertEqual(function_text(program.function("f")), "def f p\n  try\n    call p\n  except a\n    again\n"
            "  except error\n    raise a")

    def test_several(self):
        for names in (("f", "m"), ("m", "f")):
            program = wrapped(THREE, names, ("a",), "vacant")
            self.assertEqual(program.names, ("m", "f"))
            self.assertEqual([len(function) for function in program.functions], [4, 10])
            self.assertEqual(leaving(program, program.case("f")), (("vacant",),))
        self.assertEqual(wrapped(THREE, (), ("a",), "a"), THREE)
        program = wrapped(THREE, ("m",), (), "c")
        self.assertEqual(program.function("f"), THREE.function("f"))
        self.assertEqual(leaving(program, program.case("m")), (("c",),))

    def test_many_statements(self):
        program = Program(ONE.classes, function_of(57), function_of(58, "g"), function_of(59, "h"))
        self.assertEqual(len(wrapped(program, ("f",), ("a",), "a").function("f")), 60)
        self.assertEqual(len(wrapped(program, ("g",), (), "a").function("g")), 60)
        self.assertEqual(told(NoFunction, wrapped, program, ("g",), ("a",), "a"), ("many", 60))
        self.assertEqual(told(NoFunction, wrapped, program, ("h",), (), "a"), ("many", 60))
        self.assertEqual(told(NoFunction, wrapped, program, ("f", "h"), (), "a"), ("many", 60))

    def test_deep(self):
        program = Program(ONE.classes, Function("f", block=nested(11)), Function("g", block=nested(12)))
        self.assertEqual(len(wrapped(program, ("f",), ("a",), "a").function("f")), 14)
        self.assertEqual(told(NoFunction, wrapped, program, ("g",), ("a",), "a"), ("deep", 12))

    def test_the_first_one_that_is_refused(self):
        program = Program(ONE.classes, function_of(60), Function("g", block=nested(12)), Function("h", block=(("pass",),)))
        for names, reason in ((("f", "g"), ("many", 60)), (("g", "f"), ("deep", 12)), (("h", "g", "f"), ("deep", 12))):
            self.assertEqual(told(NoFunction, wrapped, program, names, (), "a"), reason)

    def test_clauses_within_clauses(self):
        function = read_function("def f\n  try\n    pass\n  except a\n    try\n      pass\n    except b\n      pass")
        program = wrapped(Program(ONE.classes, function), ("f",), ("a", "b"), "c")
        self.assertEqual(wrapped(program, ("f",), (), "error").function("f").block[0][1], program.function("f").block)

    def test_nothing_is_changed(self):
        names, allowed = ("f",), ("a",)
        wrapped(ONE, names, allowed, "a")
        self.assertEqual((names, allowed, ONE), (("f",), ("a",), read_program(P1)))


if __name__ == "__main__":
    unittest.main()
