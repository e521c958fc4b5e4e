import itertools
import unittest

from tests.samples import FORMS, P1, P2, P3, P4, PASS, any_values, nested, told
from whatleaves.classes import Classes
from whatleaves.errors import NoClass, NoFunction, NoProgram, NoText
from whatleaves.functions import Function
from whatleaves.programs import Program
from whatleaves.reader import read_function, read_program
from whatleaves.texts import function_text

TWO = "class a error\ndef f\n  try\n    pass"


def refused(*rows):
    """The row at which a function with these rows behind its head is refused (0 is the head), or None."""
    raised = told(NoText, read_function, "\n".join(("def f p",) + rows))
    return None if raised is None else raised[0]


class TestReader(unittest.TestCase):

    def test_example_of_the_document(self):
        self.assertEqual(told(NoText, read_program, TWO + "\n  pass"), (4,))
        self.assertEqual(told(NoText, read_program, TWO), (4,))
        self.assertIsNone(told(NoText, read_program, TWO + "\n  finally\n    pass"))

    def test_programs_of_the_document(self):
        self.assertEqual(read_program(P1), Program(Classes(("a", "error"), ("b", "error"), ("c", "error")), Function(
            "f", "p", block=(("try", (("call", "p"),), ((("a",), None, (
                ("try", (("call", "p"),), ((("b",), None, (("raise", "c"),)),), (), ()),)),), (), ()),))))
        self.assertEqual(read_program(P2).names, ("whose", "f"))
        self.assertEqual([len(function) for function in read_program(P3).functions], [1, 7])
        self.assertEqual(read_program(P4).functions[0].block[0][2][1], (("error",), None, PASS))

    def test_empty(self):
        self.assertEqual(read_program(""), Program(Classes.plain()))
        self.assertEqual(told(NoText, read_function, ""), (0,))

    def test_any_values(self):
        for x in any_values():
            expected = None if isinstance(x, str) and x == "" else (0,)
            self.assertEqual(told(NoText, read_program, x), expected, repr(x)[:80])
            self.assertEqual(told(NoText, read_function, x), (0,), repr(x)[:80])
        self.assertEqual(read_program(text="def f\n  pass").names, ("f",))
        self.assertEqual(read_function(text="def f\n  pass").name, "f")

    def test_functions_alone(self):
        text = "def f p\n  call p"
        self.assertEqual(read_function(text), Function("f", "p", block=(("call", "p"),)))
        self.assertEqual(told(NoText, read_function, "class a error\n" + text), (0,))
        self.assertEqual(told(NoText, read_function, text + "\ndef g\n  pass"), (2,))
        self.assertEqual(told(NoText, read_function, "def f"), (1,))
        self.assertEqual(told(NoText, read_function, text + "\n"), (2,))
        self.assertEqual(read_function("def f\n  call g x y\n  raise unknown").block[0], ("call", "g", "x", "y"))

    def test_order_of_classes_and_functions(self):
        self.assertEqual(told(NoText, read_program, "def f\n  pass\nclass a error"), (2,))
        self.assertEqual(told(NoText, read_program, "class a error\npass"), (1,))
        self.assertEqual(told(NoText, read_program, "class a error\n  pass"), (1,))
        self.assertEqual(told(NoText, read_program, "def f\ndef g\n  pass"), (1,))
        self.assertEqual(told(NoText, read_program, "def f\n  loop\ndef g\n  pass"), (2,))
        self.assertEqual(told(NoText, read_program, "def f\n  loop\n    pass\ndef g"), (4,))
        self.assertEqual(read_program("def f\n  loop\n    pass\ndef g\n  pass").names, ("f", "g"))
        self.assertEqual(told(NoText, read_program, "def f\n  try\n    pass\ndef g\n  pass"), (3,))

    def test_rows_of_classes(self):
        for row in ("class", "class a", "class a raise", "class none error", "class  a error", "class a error ",
            " class a error",
                    "class a  error", "class a Error", "class a\terror", "class abcdefghi error", "Class a error",
                    "class a error\r"):
            self.assertEqual(told(NoText, read_program, "class b error\n" + row), (1,), repr(row))
        self.assertEqual(read_program("class a error\nclass b a vacant error").classes.rows[1], ("b", "a", "vacant",
            "error"))

    def test_heads(self):
        for row in ("def", "def ", "def f ", "def  f", " def f", "  def f", "def F", "def f P", "def f as", "def def",
            "def f\tp",
                    "def abcdefghi", "def f p,q", "", "f", "pass"):
            self.assertEqual(told(NoText, read_function, row + "\n  pass"), (0,), repr(row))
            self.assertEqual(told(NoText, read_program, "class a error\n" + row + "\n  pass"), (1,), repr(row))

    def test_rows_of_statements(self):
        wrong = (
            "", "  ", "pass", " pass", "   pass", "    pass", "\tpass", "  \tpass", "  pass ", "  pass pass", "  pas",
            "  PASS", "  return a",
            "  break break", "  raise", "  raise a from", "  raise a b", "  raise a from b c", "  raise none",
            "  raise a from as", "  raise  a",
            "  raise a  from b", "  raise a form b", "  raise abcdefghi", "  again none", "  again a b", "  again ",
            "  call", "  call with",
            "  call f loop", "  call f  x", "  call abcdefghi", "  handling a", "  either or", "  loop loop",
            "  try a", "  with f",
            "  with f g h", "  with f g h a", "  with f g a quiet", "  with", "  with f g quiet",
            "  with f g quiet none", "  with f g quiet a  b", "  with f quiet a", "  with none f",
            "  with f g quiet a ", "  else", "  or", "  except a", "  finally", "  def f", "  class a error",
            "  if a", "  f", "  a as b",
        )
        for row in wrong:
            self.assertEqual(refused(row), 1, repr(row))
            self.assertEqual(refused("  pass", row), 2, repr(row))
            self.assertEqual(refused("  loop", "    pass", row), None if row == "    pass" else 3, repr(row))
            self.assertEqual(refused("  loop", "  " + row), 2, repr(row))

    def test_clauses_of_rows(self):
        for row in ("  except", "  except as n", "  except a as", "  except a as none", "  except a as n m",
            "  except a as n as m",
                    "  except a  b", "  except a ", "  except A", "  excepts a", " except a", "    except a",
                    "except a",
                    "  else", "  or", "  pass", "  try", "  finally a", "  handling", ""):
            self.assertEqual(refused("  try", "    pass", row), 3, repr(row))
        for row in ("  except a", "  except a a", "  except a b as n", "  finally"):
            self.assertEqual(refused("  try", "    pass", row), 4, repr(row))

    def test_order_of_sections(self):
        body = {"e": ("  except a", "    pass"), "o": ("  else", "    pass"), "l": ("  finally", "    pass"),
            "r": ("  or", "    pass")}
        right = {"e", "ee", "eo", "el", "eol", "l", "eeo", "eel"}
        for many in range(1, 4):
            for parts in itertools.product("eolr", repeat=many):
                rows = [row for part in parts for row in body[part]]
                self.assertEqual(refused("  try", "    pass", *rows) is None, "".join(parts) in right | {"eee"}, parts)
                self.assertEqual(refused("  either", "    pass", *rows) is None, set(parts) == {"r"}, parts)
                self.assertEqual(refused("  handling", "    pass", *rows) is None, parts == ("o",), parts)
        self.assertEqual(refused("  try", "    pass", *body["l"], *body["e"]), 5)
        self.assertEqual(refused("  try", "    pass", *body["e"], *body["o"], *body["o"]), 7)
        self.assertEqual(refused("  loop", "    pass", *body["o"]), 3)
        self.assertEqual(refused("  with p p", "    pass", *body["l"]), 3)
        self.assertEqual(refused("  either", "    pass", "  pass"), 3)
        self.assertEqual(refused("  handling", "    pass", "  pass"), 3)

    def test_stops_too_early(self):
        rows = ["class a error", "def f", "  handling", "    pass", "  else", "    either", "      pass", "    or",
            "      pass",
                "  try", "    loop", "      pass", "  finally", "    pass", "  with f f", "    pass"]
        for k in range(len(rows) + 1):
            expected = None if k in (0, 1, 9, 14, 16) else (k,)
            self.assertEqual(told(NoText, read_program, "\n".join(rows[:k])), expected)
            self.assertEqual(told(NoText, read_program, "\n".join(rows[:k] + [""])), (k,) if k > 0 else None)

    def test_inner_statements_must_be_finished(self):
        self.assertEqual(refused("  handling", "    loop", "      pass", "  pass"), 4)
        self.assertEqual(refused("  handling", "    try", "      pass", "  else"), 4)
        self.assertEqual(refused("  loop", "    either", "      pass", "  pass"), 4)
        self.assertEqual(refused("  loop", "    either", "      pass"), 4)
        self.assertIsNone(refused("  handling", "    either", "      pass", "    or", "      pass", "  else",
            "    pass"))
        self.assertIsNone(refused("  try", "    try", "      pass", "    except a", "      pass", "  finally",
            "    pass"))

    def test_reserved_words_as_names(self):
        for word in ("as", "quiet", "returns", "none", "or", "def", "from"):
            for row in (f"  raise {word}", f"  again {word}", f"  call f {word}", f"  with p {word}",
                f"  with p p quiet a {word}"):
                self.assertEqual(refused("  pass", row), 2, row)

    def test_other_signs(self):
        for sign in ("\t", "\r", "-", ".", ":", ";", "0", "A"):
            self.assertEqual(refused("  pass", "  call f" + sign), 2, repr(sign))
        self.assertEqual(told(NoText, read_program, "\n"), (0,))
        self.assertEqual(told(NoText, read_program, "class a error\n"), (1,))
        self.assertEqual(told(NoText, read_program, "class a error\n\nclass b error"), (1,))
        self.assertEqual(refused("  pass\n"), 2)

    def test_what_is_not_looked_at_here(self):
        self.assertEqual(told(NoFunction, read_program, "def f p q r\n  pass"), ("callback", 2))
        self.assertEqual(told(NoFunction, read_function, "def f f\n  pass"), ("callback", 0))
        self.assertEqual(told(NoFunction, read_function, "def f\n  try\n    pass\n  except a a\n    pass"), ("form", 0))
        self.assertEqual(told(NoFunction, read_function, "def f\n  with f f quiet a a\n    pass"), ("form", 0))
        self.assertEqual(told(NoFunction, read_function, "def f\n  again n"), ("bound", 0))
        self.assertEqual(told(NoFunction, read_function, "def f\n  pass\n  break"), ("break", 1))
        self.assertEqual(told(NoFunction, read_function, "def f" + "\n  pass" * 61), ("many", 60))
        self.assertEqual(told(NoClass, read_program, "class a a\ndef f f\n  pass"), ("base", 0))
        self.assertEqual(told(NoProgram, read_program, "def f\n  raise a"), ("statement", (0, 0)))
        self.assertEqual(told(NoProgram, read_program, "def f\n  pass\ndef f\n  pass"), ("function", 1))

    def test_first_fault(self):
        self.assertEqual(told(NoText, read_program, "class a a\ndef f f\n  raise a\n"), (3,))
        self.assertEqual(told(NoClass, read_program, "class a a\ndef f f\n  raise b"), ("base", 0))
        self.assertEqual(told(NoFunction, read_program, "def f\n  raise b\ndef g g\n  pass\ndef h\n  break"),
            ("callback", 0))
        self.assertEqual(told(NoProgram, read_program, "def f\n  raise b\ndef f\n  pass"), ("function", 1))

    def test_depth(self):
        rows = ["def f"] + ["  " * k + "loop" for k in range(1, 100)]
        text = "\n".join(rows + ["  " * 100 + "pass"])
        self.assertEqual(told(NoFunction, read_function, text), ("deep", 12))
        self.assertEqual(told(NoText, read_function, "\n".join(rows)), (100,))
        self.assertEqual(told(NoText, read_function, text + "\n" + "  " * 102 + "pass"), (101,))
        self.assertEqual(told(NoFunction, read_function, text + "\n  pass"), ("deep", 12))
        self.assertEqual(read_function(function_text(Function("f", block=nested(12)))).block, nested(12))


if __name__ == "__main__":
    unittest.main()
