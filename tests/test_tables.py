import unittest

from tests.pairs import Pairs
from tests.samples import P1, P2, P3, P4, any_values, told
from whatleaves.acts import Acts
from whatleaves.errors import NoCase
from whatleaves.levels import ByClass, Level
from whatleaves.looks import look
from whatleaves.reader import read_program
from whatleaves.tables import can, closed, outcomes, table_of

ONE, TWO, THREE, FOUR = [read_program(text) for text in (P1, P2, P3, P4)]
CALLS = read_program("""\
class a error
class b error
class c error
def g
  either
    raise a
  or
    pass
def deep p q
  try
    call p
  except a
    call deep q p
  except b
    call q
def f p
  call deep p g
  loop
    call f g""")


def acts(*rows):
    return Acts(*[("p", None if j == "-" else j, o) for j, o in (row.split(":") for row in rows)])


class TestTables(unittest.TestCase):

    def test_examples(self):
        level = Level(ONE.classes)
        self.assertEqual(table_of(ONE, level, ("f", ("p",), None)), {("f", ("p",), None): ()})
        self.assertEqual(table_of(TWO, Level(TWO.classes), ("f", (), "a")), {("f", (), "a"): ("a",), ("whose",
            (), "a"): ("a",)})
        self.assertEqual(table_of(TWO, Level(TWO.classes), ("whose", (), None)), {("whose", (), None): ("vacant",)})
        self.assertEqual(table_of(THREE, Level(THREE.classes), ("f", (), None)), {("f", (), None): ("a", "c"), ("f",
            (), "b"): ("a", "c"), ("m", (), None): ("b",), ("m", (), "b"): ("b",)})
        self.assertEqual(can(FOUR, acts("-:a", "-:b", "-:returns", "-:z"), "f"), ("returns", "a"))

    def test_p1(self):
        self.assertEqual(can(ONE, acts("-:a", "a:b"), "f"), ("c",))
        self.assertEqual(can(ONE, acts("-:a", "-:b", "b:b", "a:returns"), "f"), ("returns", "b"))
        self.assertEqual(can(ONE, acts("-:a", "a:a"), "f"), ("a",))
        self.assertEqual(can(ONE, acts("a:a", "a:b", "-:a"), "f", handled="a"), ("a", "b", "c"))
        self.assertEqual(can(ONE, acts("-:a", "a:b"), "f", "q"), ())
        self.assertEqual(can(ONE, acts("-:a", "a:b", "-:x", "x:a"), "f", "p"), ("c",))
        self.assertEqual(can(ONE, Acts(), "f"), ())
        self.assertEqual(can(program=ONE, acts=acts("-:error"), function="f"), ("error",))

    def test_functions_that_call_one_another(self):
        table = table_of(CALLS, ByClass(CALLS.classes, acts("-:b", "b:c")), ("deep", ("p", "g"), None))
        self.assertEqual(table, {("deep", ("p", "g"), None): ("returns", "a"), ("g", (), "b"): ("returns", "a")})
        table = table_of(CALLS, ByClass(CALLS.classes, acts("a:c")), ("deep", ("g", "p"), None))
        self.assertEqual(table, {("deep", ("g", "p"), None): ("returns", "c"), ("deep", ("p", "g"), "a"): ("c",), ("g",
            (), None): ("returns", "a")})
        self.assertEqual(can(CALLS, Acts(), "f", "g"), ("returns",))
        self.assertEqual(can(CALLS, acts("-:returns", "-:c"), "f"), ("returns", "c"))

    def test_functions_that_only_call_themselves(self):
        program = read_program("def f\n  call f\ndef g\n  either\n    call g\n  or\n    raise error\ndef h\n"
            "  call g\n  call h")
        level = Level(program.classes)
        self.assertEqual(table_of(program, level, ("f", (), None)), {("f", (), None): ()})
        self.assertEqual(outcomes(program, level, ("g", (), "vacant")), ("error",))
        self.assertEqual(table_of(program, level, ("h", (), None)), {("h", (), None): ("error",), ("g",
            (), None): ("error",)})

    def test_one_word_twice_and_functions(self):
        level = ByClass(CALLS.classes, acts("-:a", "a:a", "a:returns"))
        self.assertEqual(outcomes(CALLS, level, ("deep", ("p", "p"), None)), ("returns",))
        level = ByClass(CALLS.classes, acts("-:a", "a:b"))
        self.assertEqual(outcomes(CALLS, level, ("deep", ("p", "p"), None)), ())
        self.assertEqual(outcomes(CALLS, level, ("deep", ("p", "g"), None)), ("returns", "a"))
        self.assertEqual(outcomes(CALLS, level, ("deep", ("g", "g"), None)), ("returns",))

    def test_views_that_are_tuples(self):
        level = Pairs(THREE.classes)
        table = table_of(THREE, level, ("f", (), None))
        self.assertEqual(table[("f", (), None)], (("a", "a"), ("a", "c"), ("c", "")))
        self.assertEqual(table[("f", (), ("b", ""))], (("a", "a"), ("a", "c"), ("c", "b")))
        self.assertEqual(sorted(table, key=repr), sorted([("f", (), None), ("f", (), ("b", "")), ("f", (), ("b", "b")),
            ("m", (), None), ("m", (), ("b", "")), ("m", (), ("b", "b"))], key=repr))
        self.assertTrue(closed(THREE, level, table))
        self.assertEqual(outcomes(THREE, level, ("m", (), ("c", "a"))), (("b", "c"),))

    def test_views_that_are_kinds(self):
        # No class of P4 is within both a and b, but one that is made later may be.
        kinds = FOUR.classes.kinds()

        class Kinds(Level):
            KIND = "kind"

            def view(self, name, cause=None):
                return (name,)

            def taken(self, view, names):
                return self.classes.meets(view, names)

            def does(self, callback, handled):
                return ("returns",) + kinds

        level, case = Kinds(FOUR.classes), ("f", ("p",), None)
        self.assertEqual(outcomes(FOUR, level, case), ("returns", ("a",), ("a", "vacant"), ("a", "vacant", "z"), ("a",
            "z"), ("z",)))
        self.assertTrue(closed(FOUR, level, table_of(FOUR, level, case)))
        self.assertEqual(len(look(FOUR, level, ("f", ("p",), ("a", "b")), {}).outcomes), 6)

    def test_entries_are_ordered(self):
        program = read_program("def f\n  either\n    raise vacant\n  or\n    pass\n  or\n    raise error")
        self.assertEqual(outcomes(program, Level(program.classes), ("f", (), None)), ("returns", "error", "vacant"))

    def test_errors_of_can(self):
        for x in any_values():
            if not (isinstance(x, str) and x == "f"):
                self.assertEqual(told(NoCase, can, ONE, Acts(), x), ("function",))
            if not (isinstance(x, str) and x in ("a", "p", "error", "vacant", "abcdefgh")):
                self.assertEqual(told(NoCase, can, ONE, Acts(), "f", x), ("given",))
        self.assertEqual(told(NoCase, can, ONE, Acts(), "f", "p", "p"), ("given",))
        self.assertEqual(told(NoCase, can, ONE, Acts(), "g", "f", handled="x"), ("function",))
        self.assertEqual(told(NoCase, can, ONE, Acts(), "f", "f", handled="x"), ("given",))
        self.assertEqual(told(NoCase, can, ONE, Acts(), "f", handled="x"), ("handled",))

    def test_what_is_returned_may_be_changed(self):
        level, case = Level(THREE.classes), ("f", (), None)
        table = table_of(program=THREE, level=level, case=case)
        table[case] = ()
        del table[("m", (), None)]
        self.assertEqual(len(table_of(THREE, level, case)), 4)
        self.assertEqual(outcomes(program=THREE, level=level, case=case), ("a", "c"))


class TestClosed(unittest.TestCase):

    def setUp(self):
        self.level = ByClass(CALLS.classes, acts("-:a", "-:c", "a:b", "b:returns"))
        self.case = ("f", ("p",), None)
        self.table = table_of(CALLS, self.level, self.case)

    def test_least(self):
        self.assertTrue(closed(CALLS, self.level, self.table))
        self.assertGreater(len(self.table), 3)
        for case, entry in self.table.items():
            for outcome in entry:
                less = {**self.table, case: [one for one in entry if one != outcome]}
                self.assertFalse(closed(CALLS, self.level, less), (case, outcome))
            if case != self.case:
                self.assertFalse(closed(CALLS, self.level, {c: e for c, e in self.table.items() if c != case}))

    def test_more_than_comes_about(self):
        more = {case: list(entry) + ["vacant"] for case, entry in self.table.items()}
        self.assertTrue(closed(CALLS, self.level, more))
        more = {**self.table, ("g", (), "c"): ["returns", "a", "b"]}
        self.assertTrue(closed(program=CALLS, level=self.level, table=more))
        more = {**self.table, ("g", (), "c"): ("returns",)}
        self.assertFalse(closed(CALLS, self.level, more))

    def test_outcomes_that_are_no_classes(self):
        more = {**self.table, ("g", (), "c"): ("returns", "a", "w")}
        self.assertTrue(closed(CALLS, self.level, more))
        more = {**self.table, ("g", (), None): ("returns", "a", "w")}
        self.assertFalse(closed(CALLS, self.level, more))
        more = {case: list(entry) + ["w"] for case, entry in self.table.items()}
        self.assertTrue(closed(CALLS, self.level, more))

    def test_empty(self):
        self.assertTrue(closed(CALLS, self.level, {}))
        self.assertTrue(closed(ONE, Level(ONE.classes), {("f", ("p",), None): []}))
        self.assertFalse(closed(CALLS, Level(CALLS.classes), {("f", ("g",), None): ["returns", "a"]}))

    def test_other_levels(self):
        self.assertFalse(closed(CALLS, ByClass(CALLS.classes, acts("-:a", "-:c", "a:b", "b:returns", "-:vacant")),
            self.table))
        self.assertTrue(closed(CALLS, Level(CALLS.classes), self.table))

    def test_nothing_is_changed(self):
        table = {case: list(entry) for case, entry in self.table.items()}
        closed(CALLS, self.level, table)
        self.assertEqual(table, {case: list(entry) for case, entry in self.table.items()})


if __name__ == "__main__":
    unittest.main()
