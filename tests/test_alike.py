import itertools
import random
import unittest

from tests.random_programs import CLASSES, random_program
from tests.samples import P1, told
from tests.test_lists import AB, AC, CALLS, EXAMPLE, NA, NB, NC, NINE
from whatleaves.acts import Acts, act_order
from whatleaves.alike import parted
from whatleaves.classes import Classes
from whatleaves.errors import TooMany, Unlike
from whatleaves.levels import ByClass
from whatleaves.programs import Program
from whatleaves.reader import read_program
from whatleaves.tables import outcomes

ONE = read_program(P1)
HEAD = "class a error\nclass b error\nclass c error\n"


def plain_parted(one, other, acts):
    """The same, by trying all sets."""
    sets = [Acts(*rows) for many in range(len(acts) + 1) for rows in itertools.combinations(acts.rows, many)]
    for part in sorted(sets, key=lambda part: (len(part), [act_order(row) for row in part.rows])):
        level = ByClass(one.classes, part)
        for function in one.functions:
            for handled in (None,) + one.classes.names:
                case = (function.name, function.callbacks, handled)
                here, there = outcomes(one, level, case), outcomes(other, level, case)
                for outcome in ("returns",) + one.classes.names:
                    if (outcome in here) != (outcome in there):
                        return (case, outcome, part)
    return None


class TestParted(unittest.TestCase):

    def test_alike(self):
        self.assertIsNone(parted(ONE, ONE, EXAMPLE))
        self.assertIsNone(parted(CALLS, CALLS, Acts()))
        one = read_program(HEAD + "def f p\n  try\n    call p\n  except a\n    again")
        other = read_program(HEAD + "def f p\n  call p")
        self.assertIsNone(parted(one, other, EXAMPLE | Acts(NB, ("p", "b", "returns"))))
        self.assertIsNone(parted(Program(Classes()), Program(Classes()), EXAMPLE))

    def test_one_statement_differs(self):
        other = read_program(P1.replace("raise c", "raise b"))
        case = ("f", ("p",), None)
        self.assertEqual(parted(ONE, other, Acts(NA, AB)), (case, "b", Acts(NA, AB)))
        self.assertEqual(parted(other, ONE, EXAMPLE), (case, "b", Acts(NA, AB)))
        acts = Acts(NA, AB, ("p", "a", "a"))
        self.assertEqual(parted(ONE, other, acts), (case, "b", Acts(NA, AB)))
        acts = Acts(AB, ("p", "a", "a"))
        self.assertEqual(parted(one=ONE, other=other, acts=acts), (("f", ("p",), "a"), "c", acts))
        self.assertIsNone(parted(ONE, other, Acts(NA, AC)))

    def test_fewest_acts_then_orders(self):
        one = read_program(HEAD + "def f p\n  pass\ndef g p\n  call p")
        other = read_program(HEAD + "def f p\n  pass\ndef g p\n  try\n    call p\n  except b\n    pass")
        acts = Acts(NC, NB, ("p", "c", "b"), ("p", "a", "b"))
        self.assertEqual(parted(one, other, acts), (("g", ("p",), None), "returns", Acts(NB)))
        self.assertEqual(parted(one, other, acts - Acts(NB)), (("g", ("p",), "a"), "returns", Acts(("p", "a", "b"))))
        other = read_program(HEAD + "def f p\n  raise c\ndef g p\n  call p")
        self.assertEqual(parted(one, other, acts), (("f", ("p",), None), "returns", Acts()))
        other = read_program(HEAD + "def f p\n  either\n    raise c\n  or\n    pass\n  or\n    raise b\n"
            "def g p\n  call p")
        self.assertEqual(parted(other, one, acts), (("f", ("p",), None), "b", Acts()))
        other = read_program(HEAD + "def f p\n  handling\n    again\n  else\n    pass\ndef g p\n  call p")
        self.assertEqual(parted(other, one, acts), (("f", ("p",), "error"), "returns", Acts()))

    def test_acts_that_are_left_out(self):
        one = read_program(HEAD + "def f p\n  call p\n  raise a")
        other = read_program(HEAD + "def f p\n  call p\n  raise b")
        self.assertIsNone(parted(one, other, Acts(("p", None, "w"), ("p", "w", "returns"), ("q", None, "returns"))))
        acts = Acts(("p", None, "w"), ("p", "vacant", "returns"), ("q", None, "returns"))
        self.assertEqual(parted(one, other, acts), (("f", ("p",), "vacant"), "a", Acts(("p", "vacant", "returns"))))

    def test_random_programs(self):
        source = random.Random(6)
        pool = [("p", j, o) for j in (None, "a", "b", "c") for o in ("returns", "a", "b")] + [("q", None, "a"), ("q",
            "a", "b")]
        sizes = {}
        for _ in range(60):
            one = random_program(source, True)
            k = source.randrange(4)
            functions = list(one.functions)
            functions[k] = random_program(source, True).functions[k]
            other = Program(CLASSES, *functions)
            acts = Acts(*source.sample(pool, 4))
            found = parted(one, other, acts)
            self.assertEqual(found, plain_parted(one, other, acts))
            sizes[None if found is None else len(found[2])] = True
        self.assertGreaterEqual(len(sizes), 3)

    def test_errors(self):
        other = read_program(P1.replace("class c", "class d").replace("raise c", "raise d"))
        self.assertEqual(told(Unlike, parted, ONE, other, Acts(NA)), ("classes",))
        self.assertEqual(told(TooMany, parted, ONE, other, NINE), ("acts", 8))
        self.assertEqual(told(TooMany, parted, ONE, ONE, NINE), ("acts", 8))
        self.assertIsNone(told(TooMany, parted, ONE, ONE, NINE - Acts(NC)))
        more = other.with_function(CALLS.function("g"))
        self.assertEqual(told(Unlike, parted, ONE, more, Acts(NA)), ("classes",))
        # The order of bases and that of rows count.
        one = read_program("class a error\nclass b error\nclass c a b")
        for text in ("class a error\nclass b error\nclass c b a", "class b error\nclass a error\nclass c a b",
            "class a error\nclass b error"):
            self.assertEqual(told(Unlike, parted, one, read_program(text), Acts()), ("classes",))
        texts = ("def f p\n  pass\ndef g\n  pass", "def g\n  pass\ndef f p\n  pass", "def f q\n  pass\ndef g\n  pass",
            "def f p\n  pass", "def f p\n  pass\ndef h\n  pass", "def f p q\n  pass\ndef g\n  pass", "")
        programs = [read_program(text) for text in texts]
        for other in programs[1:]:
            self.assertEqual(told(Unlike, parted, programs[0], other, Acts()), ("functions",))
            self.assertEqual(told(Unlike, parted, other, programs[0], Acts()), ("functions",))
        self.assertIsNone(parted(programs[0], read_program(texts[0].replace("pass", "return")), Acts()))


if __name__ == "__main__":
    unittest.main()
