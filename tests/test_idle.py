import random
import unittest

from tests.lively_programs import lively_program
from tests.random_programs import random_program
from tests.samples import P1, P2, P3, P4, told
from whatleaves.errors import TooMany
from whatleaves.idle import idle
from whatleaves.later import ByKind
from whatleaves.looks import look
from whatleaves.reader import read_program
from whatleaves.tables import table_of
from whatleaves.texts import program_text

CLASSES = "class a error\nclass aa a\nclass b error\n"


def plain_idle(program):
    """The same, from looks at each case of each table."""
    level = ByKind(program.classes)
    begun = set()
    for function in program.functions:
        for handled in (None,) + program.classes.kinds():
            table = table_of(program, level, program.case(function.name, handled=handled))
            for case in table:
                begun |= {(case[0], *clause) for clause in look(program, level, case, table).clauses}
    clauses = [(function.name, i, c) for function in program.functions for i, step in enumerate(function.statements)
        if step[0] == "try" for c in range(len(step[2]))]
    return tuple(clause for clause in clauses if clause not in begun)


class TestIdle(unittest.TestCase):

    def check(self, text, *expected):
        program = read_program(text)
        self.assertEqual(plain_idle(program), expected)
        self.assertEqual(idle(program=program), expected)

    def test_programs(self):
        for text in (P1, P2, P4):
            self.check(text)
        self.check(P3)
        self.check("def f\n  pass")
        self.check("")

    def test_behind_others(self):
        self.check(CLASSES + "def f p\n  try\n    call p\n  except error\n    pass\n  except a\n    pass\n  except b\n    pass",
            ("f", 0, 1), ("f", 0, 2))
        self.check(CLASSES + "def f p\n  try\n    call p\n  except a b\n    pass\n  except aa\n    pass\n  except b\n    pass\n"
            "  except vacant\n    pass", ("f", 0, 1), ("f", 0, 2))

    def test_for_a_later_class_alone(self):
        # Only a class that is made later is within both.
        self.check(CLASSES + "def f p\n  try\n    call p\n  except a\n    try\n      again\n    except b\n      pass")
        self.check(CLASSES + "def g\n  raise a\ndef f\n  try\n    call g\n  except a\n    try\n      again\n    except b\n"
            "      pass", ("f", 2, 0))
        self.check(CLASSES + "def f\n  try\n    again\n  except a\n    try\n      again\n    except b\n      pass")

    def test_whatever_is_handled(self):
        self.check(CLASSES + "def f\n  handling\n    try\n      again\n    except b\n      pass\n  else\n    try\n      again\n"
            "    except b\n      pass\n    except vacant\n      pass", ("f", 4, 0))
        self.check(CLASSES + "def f\n  try\n    raise a\n  except b\n    pass\n  except aa\n    pass\n  except error\n    pass",
            ("f", 0, 0), ("f", 0, 1))

    def test_order(self):
        rows = "  try\n    pass\n  except a\n    try\n      pass\n    except b\n      pass\n  try\n    pass\n  except b\n    pass"
        self.check(CLASSES + "def z\n" + rows + "\ndef a\n" + rows, ("z", 0, 0), ("z", 2, 0), ("z", 5, 0), ("a", 0, 0), ("a",
            2, 0), ("a", 5, 0))

    def test_what_is_never_come_to(self):
        self.check(CLASSES + "def f\n  call f\n  try\n    raise a\n  except a\n    pass", ("f", 1, 0))
        self.check(CLASSES + "def f\n  try\n    raise a\n  except a\n    call f")
        self.check(CLASSES + "def f\n  return\n  try\n    raise a\n  except a\n    pass", ("f", 1, 0))

    def test_clauses_in_calls_from_elsewhere(self):
        # The callback of g stands for h in a call from f, and then it lets nothing but a leave.
        self.check(CLASSES + "def h\n  raise a\ndef g p\n  try\n    call p\n  except b\n    pass\ndef f\n  call g h")
        self.check(CLASSES + "def h\n  raise a\ndef k\n  try\n    call h\n  except b\n    pass\ndef f\n  call k",
            ("k", 0, 0))

    def test_too_many(self):
        program = read_program("\n".join(f"class {name} error" for name in "abcde") + "\ndef f\n  pass")
        self.assertEqual(told(TooMany, idle, program), ("classes", 6))

    def test_random_programs(self):
        source = random.Random(9)
        found = 0
        for k in range(60):
            program = random_program(source, k % 4 == 1) if k % 2 == 0 else lively_program(source)
            clauses = idle(program)
            self.assertEqual(clauses, plain_idle(program), program_text(program))
            found += len(clauses)
        self.assertGreater(found, 30)


if __name__ == "__main__":
    unittest.main()
