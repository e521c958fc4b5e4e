import unittest

from tests.samples import PASS, any_values, told
from whatleaves.classes import Classes
from whatleaves.errors import NoCase
from whatleaves.functions import Function
from whatleaves.programs import Program

PROGRAM = Program(
    Classes(("a", "error"), ("b", "error")), Function("f", "p", block=PASS), Function("two", "p", "q", block=PASS),
    Function("g", block=PASS), Function("h", block=PASS))


class TestCases(unittest.TestCase):

    def test_nothing_given(self):
        self.assertEqual(PROGRAM.case("g"), ("g", (), None))
        self.assertEqual(PROGRAM.case("f"), ("f", ("p",), None))
        self.assertEqual(PROGRAM.case("two", handled="b"), ("two", ("p", "q"), "b"))

    def test_given(self):
        for given in (("p", "q"), ("q", "p"), ("x", "x"), ("g", "h"), ("g", "g"), ("error", "abcdefgh"), ("h", "p")):
            self.assertEqual(PROGRAM.case("two", *given), ("two", given, None))
        for given in (("p",), ("p", "q", "x"), ("p", "f"), ("two", "p"), ("p", "none"), ("p", "abcdefghi"), ("", "p"),
            ("p", None)):
            self.assertEqual(told(NoCase, PROGRAM.case, "two", *given), ("given",), given)
        self.assertEqual(told(NoCase, PROGRAM.case, "g", "p"), ("given",))

    def test_handled(self):
        for handled in (None, "a", "error", "vacant", ("a",), ("error",), ("a", "b"), ("a", "b", "vacant"), ("b",
            "vacant")):
            self.assertEqual(PROGRAM.case("g", handled=handled), ("g", (), handled))
        for handled in ("c", "returns", "", (), ("b", "a"), ("a", "a"), ("a", "error"), ("c",), ["a"], ("a", None), 0,
            False):
            self.assertEqual(told(NoCase, PROGRAM.case, "g", handled=handled), ("handled",), handled)

    def test_kinds_of_many_classes(self):
        classes = Classes(*[("x" + letter, "error") for letter in "abcdefghijkl"])
        program = Program(classes, Function("g", block=PASS))
        self.assertEqual(program.case("g", handled=("xa", "xl"))[2], ("xa", "xl"))
        self.assertEqual(told(NoCase, program.case, "g", handled=("xl", "xa")), ("handled",))

    def test_any_values(self):
        for x in any_values():
            function = isinstance(x, str) and x == "f"
            self.assertEqual(told(NoCase, PROGRAM.case, x), None if function else ("function",))
            given = isinstance(x, str) and x in ("a", "p", "error", "vacant", "abcdefgh")
            self.assertEqual(told(NoCase, PROGRAM.case, "f", x), None if given else ("given",))
            handled = x is None or (isinstance(x, str) and x in ("a", "error", "vacant")) or x == ("a",)
            self.assertEqual(told(NoCase, PROGRAM.case, "f", handled=x), None if handled else ("handled",))

    def test_first_fault(self):
        self.assertEqual(told(NoCase, PROGRAM.case, "x", None, handled="x"), ("function",))
        self.assertEqual(told(NoCase, PROGRAM.case, "f", None, handled="x"), ("given",))
        self.assertEqual(told(NoCase, PROGRAM.case, function="f", handled="x"), ("handled",))


if __name__ == "__main__":
    unittest.main()
