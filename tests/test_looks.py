import unittest

from tests.pairs import DoingPairs, Pairs
from tests.samples import P1, P2, P3, P4
from whatleaves.acts import Acts
from whatleaves.levels import ByClass, Level
from whatleaves.looks import Look, look
from whatleaves.reader import read_program

CLASSES = "class a error\nclass b error\nclass c error\nclass aa a\n"
MORE = "def g\n  pass\ndef h\n  pass\ndef two p q\n  pass\n"
NONE = ("g", (), None)


def body(*rows):
    """A program with a function f p with these rows, and with other functions."""
    return read_program(CLASSES + MORE + "def f p\n" + "\n".join("  " + row for row in rows))


def seen(program, table, *acts, handled=None, given=("p",)):
    """Outcomes, cases and clauses of a look at f."""
    found = look(program, ByClass(program.classes, Acts(*acts)), ("f", given, handled), table)
    return found.outcomes, found.cases, found.clauses


def left(program, *outcomes, handled=None):
    """The outcomes of a look at f where p, called while nothing is handled, has these outcomes."""
    return seen(program, {}, *[("p", None, outcome) for outcome in outcomes], handled=handled)[0]


class TestStatements(unittest.TestCase):

    def test_simple(self):
        self.assertEqual(left(body("pass")), ("returns",))
        self.assertEqual(left(body("return", "raise a")), ("returns",))
        self.assertEqual(left(body("raise a", "raise b")), ("a",))
        self.assertEqual(left(body("raise a from none"), handled="b"), ("a",))
        self.assertEqual(left(body("again")), ("vacant",))
        self.assertEqual(left(body("again"), handled="aa"), ("aa",))

    def test_no_act(self):
        self.assertEqual(seen(body("call p", "raise a"), {}), ((), (), ()))
        self.assertEqual(left(body("either", "  call p", "or", "  pass")), ("returns",))
        level = Level(body("pass").classes)
        self.assertEqual(look(body("call p"), level, ("f", ("p",), None), {}).outcomes, ())

    def test_acts_depend_on_what_is_handled(self):
        program = body("call p")
        acts = (("p", None, "a"), ("p", "b", "returns"), ("p", "b", "c"), ("q", "b", "a"))
        self.assertEqual(seen(program, {}, *acts)[0], ("a",))
        self.assertEqual(seen(program, {}, *acts, handled="b")[0], ("returns", "c"))
        self.assertEqual(seen(program, {}, *acts, handled="b", given=("q",))[0], ("a",))
        self.assertEqual(seen(program, {}, *acts, handled="c")[0], ())

    def test_a_block_goes_on_only_where_it_ends(self):
        program = body("call p", "raise c")
        self.assertEqual(left(program, "a"), ("a",))
        self.assertEqual(left(program, "a", "returns"), ("a", "c"))

    def test_handling_and_either(self):
        program = body("handling", "  raise a", "else", "  raise b")
        self.assertEqual([left(program, handled=j) for j in (None, "c")], [("b",), ("a",)])
        program = body("either", "  raise b", "or", "  raise a", "or", "  return", "or", "  raise a")
        self.assertEqual(left(program), ("returns", "a", "b"))

    def test_loop(self):
        rows = ("loop", "  either", "    break", "  or", "    return", "  or", "    raise a", "raise b")
        self.assertEqual(left(body(*rows)), ("returns", "a", "b"))
        self.assertEqual(left(body("loop", "  raise a")), ("returns", "a"))
        self.assertEqual(left(body("loop", "  call p", "  raise b", "raise c"), "returns"), ("b", "c"))
        self.assertEqual(left(body("loop", "  loop", "    break", "  raise a", "return")), ("returns", "a"))

    def test_try(self):
        program = body("try", "  call p", "except aa", "  raise b", "except a c as n", "  again n", "except error",
            "  pass", "else", "  raise vacant")
        self.assertEqual(left(program, "aa"), ("b",))
        self.assertEqual(left(program, "a", "c"), ("a", "c"))
        self.assertEqual(left(program, "b"), ("returns",))
        self.assertEqual(left(program, "returns"), ("vacant",))
        self.assertEqual(left(body("try", "  call p", "except b", "  raise c"), "a", "b"), ("a", "c"))
        program = body("try", "  call p", "except a", "  raise b", "except b", "  pass", "else", "  raise b")
        self.assertEqual(left(program, "a"), ("b",))
        self.assertEqual(left(program, "returns"), ("b",))

    def test_bound_names(self):
        program = body("try", "  call p", "except a as n", "  try", "    raise b", "  except b as m", "    either",
            "      again n", "    or", "      again m", "    or", "      again")
        self.assertEqual(left(program, "a", "aa"), ("a", "aa", "b"))
        program = body("try", "  call p", "except a as n", "  try", "    raise b", "  except b as n", "    again n")
        self.assertEqual(left(program, "a"), ("b",))
        # What a name is bound to and what is handled belong together: both are one error.
        program = body("try", "  call p", "except error as n", "  try", "    again n", "  except a", "    raise c",
            "  except b", "    again n")
        self.assertEqual(left(program, "a", "b"), ("b", "c"))

    def test_last(self):
        program = body("try", "  call p", "finally", "  handling", "    raise c", "  else", "    pass")
        self.assertEqual(left(program, "a", "returns"), ("returns", "c"))
        program = body("try", "  call p", "finally", "  either", "    pass", "  or", "    return", "  or",
            "    raise b")
        self.assertEqual(left(program, "a"), ("returns", "a", "b"))
        program = body("try", "  call p", "except a", "  raise b", "finally", "  again")
        self.assertEqual(left(program, "a"), ("b",))
        self.assertEqual(left(program, "returns"), ("vacant",))
        program = body("loop", "  try", "    call p", "  finally", "    break", "raise c")
        self.assertEqual(left(program, "a", "returns"), ("c",))
        program = body("loop", "  try", "    break", "  finally", "    call p", "raise c")
        self.assertEqual(left(program, "a"), ("a", "c"))
        self.assertEqual(left(body("try", "  return", "finally", "  call p", "raise c"), "returns"), ("returns",))

    def test_last_in_last(self):
        rows = ("try", "  call p", "finally")
        program = body(*rows, *["  " + row for row in rows], "    try", "      raise b", "    finally", "      again")
        self.assertEqual(seen(program, {}, ("p", None, "a"), ("p", "a", "c"))[0], ("b",))

    def test_with(self):
        acts = (("p", None, "returns"), ("p", "a", "returns"), ("p", "aa", "returns"), ("p", "b", "c"))
        program = body("with p p quiet aa", "  either", "    raise a", "  or", "    raise aa", "  or",
            "    raise b", "  or", "    return", "raise vacant")
        self.assertEqual(seen(program, {}, *acts)[0], ("returns", "a", "c", "vacant"))
        program = body("with p g", "  raise a", "raise c")
        self.assertEqual(seen(program, {NONE: ("returns",), ("g", (), "a"): ["returns"]}, ("p", None, "b")),
            (("b",), (), ()))
        self.assertEqual(seen(program, {NONE: ("returns",), ("g", (), "a"): ["returns"]}, ("p", None, "returns")),
            (("a",), (("g", (), "a"),), ()))
        # What leaves G is not kept quiet, even if it is the same error.
        program = body("with g p quiet error", "  raise a", "raise b")
        table = {NONE: ("returns",)}
        self.assertEqual(seen(program, table, ("p", "a", "a"))[0], ("a",))
        self.assertEqual(seen(program, table, ("p", "a", "returns"))[0], ("b",))
        program = body("loop", "  with g p", "    break", "raise b")
        self.assertEqual(seen(program, table, ("p", None, "returns"))[0], ("b",))
        self.assertEqual(seen(program, table, ("p", None, "a"))[0], ("a", "b"))


class TestCalls(unittest.TestCase):

    def test_the_table_need_not_be_right(self):
        program = body("call g", "raise a")
        for entry, outcomes in (((), ()), (("b", "returns"), ("a", "b")), (["c"], ("c",)), (["b", "b"], ("b",))):
            self.assertEqual(seen(program, {NONE: entry}), (outcomes, (NONE,), ()))
        self.assertEqual(seen(program, {}), ((), (NONE,), ()))
        other = {("g", (), "a"): ("b",), ("f", ("p",), None): ("c",), ("h", (), None): ("returns",)}
        self.assertEqual(seen(program, other), ((), (NONE,), ()))

    def test_callbacks_that_stand_for_functions(self):
        program = body("try", "  call p", "except error", "  call p")
        table = {NONE: ("a",), ("g", (), "a"): ("c",)}
        acts = (("p", None, "b"), ("g", None, "b"))
        self.assertEqual(seen(program, table, *acts, given=("g",)), (("c",), (("g", (), None), ("g", (), "a")),
            ((0, 0),)))
        self.assertEqual(seen(program, table, *acts), ((), (), ((0, 0),)))

    def test_what_is_passed(self):
        program = body("call two p g", "call two g p", "call two p p", "call f h", "call f p")
        table = {("two", given, None): ("returns",) for given in (("x", "g"), ("g", "x"), ("x", "x"))}
        table[("f", ("h",), None)] = ("returns",)
        self.assertEqual(seen(program, table, given=("x",))[1], (("f", ("h",), None), ("f", ("x",), None),
            ("two", ("g", "x"), None), ("two", ("x", "g"), None), ("two", ("x", "x"), None)))

    def test_one_word_twice(self):
        program = read_program(CLASSES + "def f p q\n  try\n    call p\n  except a\n    call q")
        level = ByClass(program.classes, Acts(("x", None, "a"), ("x", "a", "b"), ("y", "a", "c")))
        for given, outcomes in ((("x", "x"), ("b",)), (("x", "y"), ("c",)), (("y", "x"), ())):
            self.assertEqual(look(program, level, ("f", given, None), {}).outcomes, outcomes)

    def test_order_of_cases(self):
        program = body("either", "  call h", "or", "  call g", "or", "  try", "    raise c", "  except c", "    call g",
            "or", "  try", "    raise a", "  finally", "    call g")
        cases = (("g", (), None), ("g", (), "a"), ("g", (), "c"), ("h", (), None))
        self.assertEqual(seen(program, {})[1], cases)

    def test_beginnings_that_cannot_go_on(self):
        program = body("call g", "try", "  raise a", "except a", "  call h", "  raise b", "call f p")
        table = {NONE: ("returns",)}
        self.assertEqual(seen(program, table), ((), (("g", (), None), ("h", (), "a")), ((1, 0),)))
        table[("h", (), "a")] = ("returns",)
        self.assertEqual(seen(program, table), (("b",), (("g", (), None), ("h", (), "a")), ((1, 0),)))
        self.assertEqual(seen(program, {}), ((), (NONE,), ()))

    def test_clauses(self):
        program = body("try", "  pass", "except a", "  pass", "loop", "  try", "    call p", "  except c", "    pass",
            "  except b", "    try", "      call p", "    except a", "      pass", "    except error", "      pass")
        self.assertEqual(seen(program, {}, ("p", None, "b"), ("p", "b", "c"))[2], ((4, 1), (7, 1)))
        self.assertEqual(seen(program, {}, ("p", None, "c"))[2], ((4, 0),))

    def test_a_clause_counts_though_last_drops_what_it_does(self):
        program = body("try", "  raise a", "except a", "  call p", "finally", "  return")
        self.assertEqual(seen(program, {}), ((), (), ((0, 0),)))
        self.assertEqual(seen(program, {}, ("p", "a", "b")), (("returns",), (), ((0, 0),)))

    def test_views_that_are_tuples(self):
        program = body("try", "  call p", "except a", "  either", "    raise b", "  or", "    again", "  or",
            "    call g", "except error as n", "  raise c from n")
        level = DoingPairs(program.classes, Acts(("p", "c", "a"), ("p", "c", "b"), ("p", "c", "returns")))
        case = ("f", ("p",), ("c", "b"))
        table = {("g", (), ("a", "")): (("b", "b"), "returns"), ("g", (), "a"): ("c",)}
        found = look(program, level, case, table)
        self.assertEqual(found.outcomes, ("returns", ("a", ""), ("b", "a"), ("b", "b"), ("c", "b")))
        self.assertEqual(found.cases, (("g", (), ("a", "")),))
        self.assertEqual(look(program, Pairs(program.classes), case, table).outcomes, ())
        program = body("try", "  raise a", "except a", "  call g", "finally", "  raise b")
        table = {("g", (), ("a", "c")): (("c", "a"),), ("g", (), ("a", "")): (("c", ""),)}
        self.assertEqual(look(program, Pairs(program.classes), case, table).outcomes, (("b", "c"),))
        found = look(program, Pairs(program.classes), ("f", ("p",), None), table)
        self.assertEqual((found.outcomes, found.cases), ((("b", "c"),), (("g", (), ("a", "")),)))


class TestLook(unittest.TestCase):

    def test_examples(self):
        program = read_program(P1)
        acts = Acts(("p", None, "a"), ("p", None, "returns"), ("p", "a", "b"))
        found = look(program, ByClass(program.classes, acts), program.case("f"), {})
        self.assertIsInstance(found, Look)
        self.assertEqual((found.outcomes, found.cases, found.clauses), (("returns", "c"), (), ((0, 0), (2, 0))))
        program = read_program(P2)
        found = look(program, Level(program.classes), program.case("f"), {("whose", (), "a"): ("a", "vacant")})
        self.assertEqual((found.outcomes, found.cases), (("a", "vacant"), (("whose", (), "a"),)))
        program = read_program(P3)
        table = {("m", (), None): ("b",), ("f", (), "b"): ("c", "vacant")}
        found = look(program, Level(program.classes), program.case("f"), table)
        self.assertEqual((found.outcomes, found.clauses), (("a", "c"), ((2, 0), (4, 0))))
        program = read_program(P4)
        acts = Acts(*[("p", None, name) for name in program.classes.names])
        found = look(program, ByClass(program.classes, acts), program.case("f"), {})
        self.assertEqual((found.outcomes, found.clauses), (("returns", "a"), ((0, 0), (0, 1))))

    def test_nothing_is_changed(self):
        program = body("call g", "call p")
        table = {NONE: ["returns", "a"], ("h", (), None): []}
        kept = {case: list(entry) for case, entry in table.items()}
        first = look(program=program, level=ByClass(program.classes, Acts(("p", None, "b"))), case=("f", ("p",), None),
            table=table)
        self.assertEqual(table, kept)
        table[NONE].append("c")
        self.assertEqual(first.outcomes, ("a", "b"))


if __name__ == "__main__":
    unittest.main()
