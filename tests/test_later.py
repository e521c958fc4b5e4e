import unittest

from tests.samples import P1, P2, P3, P4, told
from whatleaves.acts import Acts
from whatleaves.classes import Classes
from whatleaves.errors import TooMany
from whatleaves.later import ByKind, leaving
from whatleaves.levels import ByClass, Level
from whatleaves.looks import look
from whatleaves.reader import read_program
from whatleaves.tables import closed, outcomes, table_of

ONE, TWO, THREE, FOUR = [read_program(text) for text in (P1, P2, P3, P4)]
SIX = "class a error\nclass b error\nclass c error\nclass d error\n"
SEVEN = SIX + "class e d\n"


def kinds_of(text):
    return tuple(tuple(kind.split("+")) for kind in text.split())


class TestByKind(unittest.TestCase):

    def setUp(self):
        self.classes = Classes(("a", "error"), ("aa", "a"), ("b", "error"))
        self.level = ByKind(self.classes)

    def test_attributes(self):
        self.assertIs(self.level.classes, self.classes)
        self.assertEqual((ByKind.KIND, self.level.KIND), ("kind", "kind"))
        self.assertTrue(issubclass(ByKind, Level))
        self.assertIs(ByKind(classes=self.classes).classes, self.classes)

    def test_view(self):
        for name in self.classes.names:
            self.assertEqual(self.level.view(name), (name,))
            self.assertEqual(self.level.view(name=name, cause=("a", "b")), (name,))

    def test_name_of(self):
        self.assertEqual([self.level.name_of(kind) for kind in (("a",), ("error",), ("a", "b"), ("aa", "b", "vacant"))],
            ["a", "error", None, None])
        self.assertEqual(self.level.name_of(view=("b",)), "b")

    def test_taken(self):
        self.assertTrue(self.level.taken(("aa", "b"), ("a",)))
        self.assertTrue(self.level.taken(view=("aa", "b"), names=["vacant", "b"]))
        self.assertTrue(self.level.taken(("a", "b"), ("error",)))
        self.assertFalse(self.level.taken(("a", "b"), ("aa", "vacant")))
        self.assertFalse(self.level.taken(("error",), ("a", "b", "vacant")))
        self.assertFalse(self.level.taken(("a",), ()))

    def test_does(self):
        everything = ("returns",) + self.classes.kinds()
        for handled in (None, ("a",), ("a", "b")):
            self.assertEqual(self.level.does("p", handled), everything)
        self.assertEqual(self.level.does(callback="q", handled=None), everything)
        self.assertEqual(ByKind(Classes.plain()).does("p", None), ("returns", ("error",), ("vacant",)))

    def test_six_and_seven_classes(self):
        self.assertEqual(len(ByKind(read_program(SIX[:-1]).classes).does("p", None)), 33)
        self.assertEqual(told(TooMany, ByKind, read_program(SEVEN[:-1]).classes), ("classes", 6))

    def test_tables(self):
        level, case = ByKind(FOUR.classes), ("f", ("p",), None)
        table = table_of(FOUR, level, case)
        self.assertEqual(table, {case: ("returns",) + kinds_of("a a+vacant a+vacant+z a+z z")})
        self.assertTrue(closed(FOUR, level, table))
        for outcome in table[case]:
            self.assertFalse(closed(FOUR, level, {case: [one for one in table[case] if one != outcome]}))
        self.assertEqual(look(FOUR, level, ("f", ("p",), ("a", "b")), {}).clauses, ((0, 0), (0, 1), (2, 0)))

    def test_views_in_cases(self):
        program = read_program(SIX + "def g\n  again\ndef f p\n  try\n    call p\n  except a\n    call g")
        table = table_of(program, ByKind(program.classes), ("f", ("p",), ("c", "d")))
        handled = [case[2] for case in table if case[0] == "g"]
        self.assertEqual(len(handled), 16)
        self.assertIn(("a", "b", "vacant"), handled)
        self.assertTrue(all("a" in kind and table[("g", (), kind)] == (kind,) for kind in handled))

    def test_a_table_that_is_not_right(self):
        program = read_program(SIX + "def g\n  pass\ndef f\n  try\n    call g\n  except error\n    pass")
        level = ByKind(program.classes)
        found = look(program, level, ("f", (), None), {("g", (), None): (("w",), ("a", "w"))})
        self.assertEqual((found.outcomes, found.clauses), ((("a", "w"), ("w",)), ()))


class TestLeaving(unittest.TestCase):

    def test_example(self):
        self.assertEqual(leaving(FOUR, ("f", ("p",), None)), kinds_of("a a+vacant a+vacant+z a+z z"))
        self.assertEqual(leaving(program=FOUR, case=("f", ("p",), ("b",))), kinds_of("a a+vacant a+vacant+z a+z z"))
        acts = Acts(*[("p", j, o) for j in (None,) + FOUR.classes.names for o in ("returns",) + FOUR.classes.names])
        self.assertEqual(outcomes(FOUR, ByClass(FOUR.classes, acts), ("f", ("p",), None)), ("returns", "a"))

    def test_p1(self):
        found = leaving(ONE, ("f", ("p",), None))
        self.assertIn(("c",), found)
        self.assertIn(("a", "c"), found)
        self.assertNotIn(("a", "b"), found)
        self.assertEqual(len(found), len([kind for kind in ONE.classes.kinds() if "b" not in kind or "a" not in kind]))

    def test_without_callbacks(self):
        self.assertEqual(leaving(TWO, ("f", (), None)), (("a",),))
        self.assertEqual(leaving(TWO, ("whose", (), None)), (("vacant",),))
        self.assertEqual(leaving(TWO, ("whose", (), ("a", "vacant"))), (("a", "vacant"),))
        self.assertEqual(leaving(THREE, ("f", (), None)), kinds_of("a c"))
        self.assertEqual(leaving(read_program("def f\n  pass"), ("f", (), None)), ())

    def test_functions_in_the_place_of_callbacks(self):
        program = read_program(SIX + "def g\n  raise c\ndef f p q\n  try\n    call p\n  except c\n    call q")
        self.assertEqual(leaving(program, ("f", ("g", "g"), None)), kinds_of("c"))
        self.assertEqual(len(leaving(program, ("f", ("g", "q"), None))), 32)
        self.assertEqual(len(leaving(program, ("f", ("p", "g"), None))), 17)

    def test_withs_and_finally(self):
        program = read_program(SIX + "def g\n  pass\ndef f p\n  with g g quiet a b\n    call p\ndef h p\n  try\n"
            "    call p\n  finally\n    handling\n      try\n        again\n      except c\n        raise d\n"
            "      except error\n        pass\n    else\n      pass")
        self.assertTrue(all(not {"a", "b"} & set(kind) for kind in leaving(program, ("f", ("p",), None))))
        self.assertEqual(len(leaving(program, ("f", ("p",), None))), 8)
        self.assertEqual(len(leaving(program, ("h", ("p",), None))), 16)

    def test_too_many(self):
        program = read_program(SEVEN + "def f\n  pass")
        self.assertEqual(told(TooMany, leaving, program, ("f", (), None)), ("classes", 6))


if __name__ == "__main__":
    unittest.main()
