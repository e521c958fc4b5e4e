import unittest

from tests.pairs import DoingPairs, Pairs
from tests.samples import FORMS, P1, P3, any_values, told
from whatleaves.acts import Acts
from whatleaves.errors import Barred
from whatleaves.levels import ByClass, Level
from whatleaves.paths import record_of
from whatleaves.plays import play
from whatleaves.reader import read_program
from whatleaves.records import Record
from whatleaves.tables import outcomes

ONE, THREE = read_program(P1), read_program(P3)
CLASSES = "class a error\nclass b error\nclass c error\n"


class TestPaths(unittest.TestCase):

    def shown(self, program, level, case):
        """The records of all outcomes of a case, and what became of them."""
        found = []
        for outcome in outcomes(program, level, case):
            record = record_of(program, level, case, outcome)
            played = play(program, record)
            self.assertIsInstance(record, Record)
            self.assertEqual(record.rows[-1][0], case)
            self.assertEqual(played.outcomes[-1], outcome if outcome == "returns" else level.name_of(outcome))
            for callback, handled, did in played.acts.rows:
                self.assertIn(did, [x if x == "returns" else level.name_of(x) for x in level.does(callback, handled)])
            found.append((outcome, record, played))
        return found

    def barred(self, program, level, case):
        views = [None, "returns", "x", ("a",)] + list(program.classes.names)
        return [view for view in views if told(Barred, record_of, program, level, case, view) == (view,)]

    def test_example(self):
        case = ("f", ("p",), None)
        self.assertEqual(told(Barred, record_of, ONE, Level(ONE.classes), case, "returns"), ("returns",))
        record = record_of(program=ONE, level=ByClass(ONE.classes, Acts(("p", None, "a"), ("p", "a", "b"))), case=case,
            outcome="c")
        self.assertEqual(record, Record((case, ("a", "b"))))

    def test_barred(self):
        level = ByClass(ONE.classes, Acts(("p", None, "a"), ("p", "a", "b")))
        self.assertEqual(self.barred(ONE, level, ("f", ("p",), None)), [None, "returns", "x", ("a",), "error", "vacant",
            "a", "b"])
        for x in any_values():
            if not (isinstance(x, str) and x == "a"):
                self.assertEqual(told(Barred, record_of, THREE, Level(THREE.classes), ("f", (), None), x), (x,))

    def test_p3(self):
        level = Level(THREE.classes)
        (_, record, played), (_, other, _) = self.shown(THREE, level, ("f", (), None))
        self.assertEqual(played.acts, Acts())
        self.assertGreaterEqual(len(record), 3)
        self.assertEqual(other, Record((("f", (), None), (0,))))
        self.assertEqual(len(self.shown(THREE, level, ("f", (), "vacant"))), 2)

    def test_each_form(self):
        program = read_program(FORMS)
        rows = [("p", j, o) for j in (None, "a") for o in ("returns", "a")] + [("p", "b", "vacant")]
        level = ByClass(program.classes, Acts(*rows))
        for given in (("p",), ("g",)):
            for handled in (None,) + program.classes.names:
                self.shown(program, level, ("f", given, handled))

    def test_statements(self):
        level_of = lambda program: ByClass(program.classes, Acts(("p", None, "a"), ("p", "a", "b"), ("p", "a",
            "returns"), ("p", "b", "c"), ("p", "b", "returns"), ("p", None, "returns")))
        for rows in (
            ("loop", "  call p", "  break", "raise c"), ("loop", "  try", "    call p", "  except a", "    break",
                "  return"),
            ("handling", "  call p", "else", "  either", "    call p", "  or", "    raise c"),
            ("try", "  call p", "except a", "  call p", "else", "  raise vacant", "finally", "  call p"),
            ("with p p quiet b", "  call p", "raise c"), ("with p p", "  return"), ("with p p", "  raise b"),
            ("try", "  try", "    call p", "  finally", "    call p", "finally", "  call p"),
            ("try", "  call p", "except a as n", "  try", "    call p", "  except b", "    again n"),
            ("loop", "  loop", "    call p", "    return", "call p", "call p")):
            program = read_program(CLASSES + "def f p\n" + "\n".join("  " + row for row in rows))
            for handled in (None, "a", "b"):
                found = self.shown(program, level_of(program), ("f", ("p",), handled))
                self.assertGreater(len(found) + (handled == "b"), 0, rows)

    def test_no_row_uses_itself(self):
        for calls in ("  either\n    call f\n  or\n    raise a", "  loop\n    call f\n  raise a",
            "  try\n    call f\n  except b\n    raise a\n  finally\n    either\n      pass\n    or\n      raise b"):
            program = read_program(CLASSES + "def f\n" + calls)
            for outcome, record, _ in self.shown(program, Level(program.classes), ("f", (), None)):
                self.assertLess(len(record), 9, (calls, outcome))

    def test_functions_in_the_place_of_callbacks(self):
        program = read_program(CLASSES + "def g\n  handling\n    raise b\n  else\n    raise a\n" + P1.split("\n", 3)[3])
        case = ("f", ("g",), None)
        (outcome, record, played), = self.shown(program, Level(program.classes), case)
        self.assertEqual((outcome, played.front(len(record) - 1), len(record)), ("c", ("c", "b", "a"), 3))

    def test_rows_stand_once(self):
        rows = ["def zz\n  raise a"]
        for k in range(11):
            rows.append(f"def z{'abcdefghijk'[k]}\n" + "  try\n    call z{0}\n  except a\n    call z{0}".format(
                "zabcdefghij"[k]))
        program = read_program(CLASSES + "\n".join(rows))
        (outcome, record, played), = self.shown(program, Level(program.classes), ("zk", (), None))
        self.assertEqual(outcome, "a")
        self.assertEqual(len(set(record.rows)), len(record))
        self.assertEqual(played.needed, tuple(range(len(record))))
        self.assertLessEqual(len(record), 24)

    def test_views_that_are_tuples(self):
        level = Pairs(THREE.classes)
        found = self.shown(THREE, level, ("f", (), None))
        self.assertEqual([outcome for outcome, _, _ in found], [("a", "a"), ("a", "c"), ("c", "")])
        for (name, cause), record, played in found:
            self.assertEqual((played.front(len(record) - 1) + ("",))[:2], (name, cause))

    def test_outside_callbacks_with_views_that_are_tuples(self):
        program = read_program(P1)
        level = DoingPairs(program.classes, Acts(("p", None, "a"), ("p", "a", "b"), ("p", "a", "returns")))
        case = ("f", ("p",), None)
        self.assertEqual(outcomes(program, level, case), ("returns", ("c", "b")))
        self.assertEqual(record_of(program, level, case, ("c", "b")), Record((case, ("a", "b"))))
        self.assertEqual(record_of(program, level, case, "returns"), Record((case, ("a", "returns"))))


if __name__ == "__main__":
    unittest.main()
