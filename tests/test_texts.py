import unittest

from tests.samples import CALL_P, FORMS, P1, P2, P3, P4, PASS
from whatleaves.classes import Classes
from whatleaves.functions import Function
from whatleaves.programs import Program
from whatleaves.reader import read_function, read_program
from whatleaves.texts import function_text, program_text


def text_of(*block):
    """The rows of a block behind the head of its function."""
    return function_text(Function("f", "p", block=block)).split("\n")[1:]


class TestTexts(unittest.TestCase):

    def test_plain(self):
        self.assertEqual(program_text(Program(Classes.plain())), "")
        self.assertEqual(program_text(program=Program(Classes(("a", "error"), ("b", "a", "vacant")))),
                         "class a error\nclass b a vacant")

    def test_written_read_and_written_again(self):
        for text in (P1, P2, P3, P4, FORMS):
            program = read_program(text)
            self.assertEqual(program_text(program), text)
            self.assertEqual(read_program(program_text(program)), program)
            for function in program.functions:
                self.assertEqual(read_function(function_text(function)), function)
                self.assertIn(function_text(function=function), text)

    def test_heads(self):
        self.assertEqual(function_text(Function("f", block=PASS)), "def f\n  pass")
        self.assertEqual(function_text(Function("f", "p", "q", block=CALL_P)), "def f p q\n  call p")

    def test_simple_rows(self):
        self.assertEqual(text_of(("pass",), ("return",), ("raise", "a"), ("raise", "a", "none"), ("again",), ("call",
            "g", "p", "h")),
                         ["  pass", "  return", "  raise a", "  raise a from none", "  again", "  call g p h"])

    def test_margins(self):
        self.assertEqual(
            text_of(("handling", (("loop", (("break",), ("pass",))),), PASS), ("either", PASS, PASS, CALL_P), ("pass",
            )),
            ["  handling", "    loop", "      break", "      pass", "  else", "    pass", "  either", "    pass",
            "  or", "    pass",
             "  or", "    call p", "  pass"])

    def test_try(self):
        clauses = ((("a", "b"), "n", (("raise", "c", "n"), ("again", "n"))), (("error",), None, PASS))
        rows = ["  try", "    pass", "  except a b as n", "    raise c from n", "    again n", "  except error",
            "    pass"]
        self.assertEqual(text_of(("try", PASS, clauses, (), ())), rows)
        self.assertEqual(text_of(("try", PASS, clauses, CALL_P, ())), rows + ["  else", "    call p"])
        self.assertEqual(text_of(("try", PASS, clauses, (), CALL_P)), rows + ["  finally", "    call p"])
        self.assertEqual(text_of(("try", PASS, clauses, PASS, PASS)), rows + ["  else", "    pass", "  finally",
            "    pass"])
        self.assertEqual(text_of(("try", CALL_P, (), (), PASS)), ["  try", "    call p", "  finally", "    pass"])

    def test_with(self):
        self.assertEqual(text_of(("with", "f", "g", (), PASS)), ["  with f g", "    pass"])
        self.assertEqual(text_of(("with", "f", "g", ("b", "a"), PASS)), ["  with f g quiet b a", "    pass"])


if __name__ == "__main__":
    unittest.main()
