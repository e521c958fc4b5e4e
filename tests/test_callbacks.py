import itertools
import random
import unittest

from tests.random_programs import random_acts, random_program
from tests.samples import P1, P2, PASS, any_values, told as raised
from whatleaves.acts import Acts
from whatleaves.callbacks import acts_of, told
from whatleaves.classes import Classes
from whatleaves.errors import NoCase, NoFunction, TooMany
from whatleaves.functions import Function
from whatleaves.programs import Program
from whatleaves.reader import read_program
from whatleaves.statements import walk
from whatleaves.tables import can

ONE, TWO = read_program(P1), read_program(P2)
CALLS = read_program("""\
class a error
class aa a
class b error
def f p q
  try
    call p
  except aa
    call q
  except a
    call f q p
def g
  handling
    either
      again
    or
      call f h h
  else
    raise aa
def h
  either
    call f g h
  or
    raise b
  or
    try
      raise a
    except a
      pass
def nothing
  call nothing""")


class TestActsOf(unittest.TestCase):

    def test_acts(self):
        acts = acts_of(TWO, {"p": "whose"})
        self.assertEqual(acts, Acts(("p", None, "vacant"), ("p", "vacant", "vacant"), ("p", "a", "a"), ("p", "error",
            "error")))
        self.assertEqual(acts_of(TWO, {}), Acts())
        self.assertEqual(acts_of(CALLS, {"p": "nothing"}), Acts())
        acts = acts_of(program=TWO, functions={"x": "f", "y": "f"})
        self.assertEqual(len(acts), 8)
        self.assertTrue(all((p, j, "a") in acts for p in "xy" for j in (None, "a", "error", "vacant")))

    def test_functions_that_call_the_function_of_the_case(self):
        self.check(CALLS, {"p": "g", "q": "h", "x": "nothing"})
        self.check(CALLS, {"p": "h", "q": "h", "x": "g"})

    def check(self, program, functions):
        acts = acts_of(program, functions)
        for function in program.functions:
            for given in itertools.product(functions, repeat=len(function.callbacks)):
                for handled in (None,) + program.classes.names:
                    inner = tuple(functions[word] for word in given)
                    self.assertEqual(can(program, acts, function.name, *given, handled=handled),
                        can(program, Acts(), function.name, *inner, handled=handled))

    def test_random_programs(self):
        source = random.Random(2)
        for _ in range(40):
            program = random_program(source, True)
            self.check(program, {word: source.choice("gh") for word in ("p", "x")})

    def test_errors(self):
        words = {"b": "f", "c": "x", "a": "g"}
        self.assertEqual(raised(NoCase, acts_of, CALLS, words), ("given",))
        self.assertEqual(raised(NoCase, acts_of, CALLS, {"c": "f", "b": "x", "a": "g"}), ("function",))
        self.assertEqual(raised(NoCase, acts_of, CALLS, {"a": "h", "b": "g", "c": "f"}), ("given",))
        self.assertEqual(words, {"b": "f", "c": "x", "a": "g"})
        self.assertEqual(raised(NoCase, acts_of, ONE, {"p": "f"}), ("given",))
        for name in ("", "p", "G", "error", "nothings", " g"):
            self.assertEqual(raised(NoCase, acts_of, CALLS, {"p": name}), ("function",))


class TestTold(unittest.TestCase):

    def check(self, program, callback, acts, name="new"):
        function = told(program, name, callback, acts)
        self.assertEqual((function.name, function.callbacks), (name, ()))
        called = {word for step in walk(function.block) if step[0] in ("call", "with") for word in step[1:]}
        self.assertLessEqual(called, {name})
        whole = program.with_function(function)
        self.assertEqual(len(whole), len(program) + 1)
        for handled in (None,) + program.classes.names:
            does = [outcome for outcome in ("returns",) + program.classes.names if (callback, handled, outcome) in acts]
            self.assertEqual(set(can(whole, Acts(), name, handled=handled)), set(does))

    def test_acts(self):
        self.check(ONE, "p", Acts())
        self.check(ONE, "p", Acts(("p", None, "a"), ("p", "a", "b")))
        self.check(ONE, "p", Acts(("p", None, "returns"), ("p", "a", "b"), ("p", "a", "returns"), ("p", "error", "c")))
        self.check(ONE, "p", Acts(*[("p", None, name) for name in ("returns",) + ONE.classes.names]))
        self.check(ONE, "q", Acts(("p", None, "a"), ("q", "b", "vacant"), ("pq", "b", "a")))
        self.check(ONE, "p", Acts(("p", "vacant", "vacant"), ("p", "error", "error"), ("p", "a", "a")))

    def test_words_that_are_no_classes(self):
        self.check(ONE, "p", Acts(("p", "x", "a"), ("p", None, "x"), ("p", "x", "x"), ("p", "c", "returns")))

    def test_classes_below_others(self):
        program = Program(Classes(("a", "error"), ("b", "a"), ("c", "a"), ("d", "b", "c"), ("e", "d", "vacant")))
        names = program.classes.names
        for many in (1, 2, 8):
            for handled in itertools.islice(itertools.combinations((None,) + names, min(many, 7)), 40):
                self.check(program, "p", Acts(*[("p", j, names[k]) for k, j in enumerate(handled)]))

    def test_random_acts(self):
        source = random.Random(4)
        for _ in range(60):
            program = random_program(source)
            self.check(program, "p", random_acts(source, program.classes, 8))

    def test_greatest_programs(self):
        classes = Classes(("a", "error"), *[("x" + letter, "a" if k % 2 else "error") for k, letter in enumerate(
            "abcdefghijklmnopqrstuvwxyzabc"[:26])], ("y", "xa", "xb"), ("z", "y"), ("zz", "vacant", "z"))
        program = Program(classes, *[Function("f" + letter, block=PASS) for letter in "abcdefghijk"])
        self.assertEqual((len(classes), len(program)), (32, 11))
        names = classes.names
        self.check(program, "p", Acts(*[("p", "z", names[k]) for k in range(8)]))
        self.check(program, "p", Acts(*[("p", names[4 * k], names[k]) for k in range(8)]))
        self.check(program, "p", Acts(*[("p", names[k], name) for k in (3, 31, 0, 1) for name in ("returns", "zz")]))

    def test_errors(self):
        nine = Acts(*[("p", None, "x" + letter) for letter in "abcdefghi"])
        self.assertEqual(raised(TooMany, told, ONE, None, "p", nine), ("acts", 8))
        self.assertEqual(raised(TooMany, told, ONE, "new", "q", nine), ("acts", 8))
        self.assertIsNone(raised(TooMany, told, ONE, "new", "p", nine - Acts(("p", None, "xa"))))
        for name in ("f", "p"):
            self.assertEqual(raised(NoFunction, told, ONE, name, "p", Acts()), ("name", None))
        for x in any_values():
            word = isinstance(x, str) and x in ("a", "error", "vacant", "abcdefgh")
            self.assertEqual(raised(NoFunction, told, ONE, x, "p", Acts()), None if word else ("name", None))
        self.assertEqual(told(program=ONE, name="a", callback="p", acts=Acts()).name, "a")


if __name__ == "__main__":
    unittest.main()
