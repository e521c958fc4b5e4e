import unittest

from tests.samples import P1, P3, P4, any_values, told
from whatleaves.clients import Client, client, holds_client
from whatleaves.errors import Barred, LeaveError, TooMany
from whatleaves.later import leaving
from whatleaves.reader import read_program
from whatleaves.records import Record

ONE, THREE, FOUR = [read_program(text) for text in (P1, P3, P4)]
CASE = ("f", ("p",), None)
AB = ("later", "a", "b")


def shown(program, case):
    """The kinds for which there is a client, each of which holds; Barred for all others."""
    found = []
    for kind in program.classes.kinds():
        try:
            one = client(program, case, kind)
        except LeaveError as error:
            assert (type(error), error.outcome) == (Barred, kind)
        else:
            assert holds_client(program, case, kind, one)
            found.append(kind)
    return tuple(found)


class TestClient(unittest.TestCase):

    def test_each_kind(self):
        for program in (ONE, FOUR):
            for handled in (None, ("a",), ("a", "b"), ("error",)):
                case = ("f", ("p",), handled)
                self.assertEqual(shown(program, case), leaving(program, case))
        self.assertEqual(shown(THREE, ("f", (), None)), (("a",), ("c",)))

    def test_p4(self):
        one = client(program=FOUR, case=CASE, kind=("z",))
        self.assertIsInstance(one, Client)
        self.assertIsInstance(one.record, Record)
        (name, *bases), = one.rows
        self.assertEqual(bases, ["a", "b"])
        self.assertEqual(one.record, Record((CASE, (name,))))

    def test_more_than_one_later_class(self):
        both = ("def {0} p", "  try", "    call p", "  except {1}", "    try", "      again", "    except {2}",
            "      {3}", "    except error", "      return", "  except error", "    return")
        program = read_program("class a error\nclass b error\nclass c error\nclass d error\n" + "\n".join(both).format("f",
            "a", "b", "call g p") + "\n" + "\n".join(both).format("g", "c", "d", "again"))
        self.assertEqual(len(leaving(program, CASE)), 8)
        self.assertEqual(shown(program, CASE), leaving(program, CASE))
        one = client(program, CASE, ("a", "c", "d"))
        self.assertEqual(len(one.rows), 2)
        one = client(program, ("f", ("p",), ("a", "b")), ("c", "d"))
        self.assertIn(len(one.rows), (2, 3))
        self.assertEqual(one.record.rows[-1][0][:2], ("f", ("p",)))

    def test_names_of_later_classes(self):
        # The words that come to mind first may be taken.
        words = ["later" + one + two for one in "a" for two in "abcd"]
        program = read_program("\n".join(f"class {word} error" for word in words) + "\ndef f p\n  call p")
        self.assertEqual(len(shown(program, CASE)), 32)

    def test_functions_that_call_one_another(self):
        program = read_program("class a error\nclass b error\ndef g p\n  try\n    call p\n  except a\n    call f p\n"
            "def f p\n  handling\n    again\n  else\n    call g p")
        found = leaving(program, CASE)
        self.assertEqual(shown(program, CASE), found)
        self.assertIn(("a", "b"), found)
        one = client(program, CASE, ("a", "b"))
        self.assertEqual([row[0][0] for row in one.record.rows], ["f", "g", "f"])

    def test_barred(self):
        for kind in (("a", "b"), ("vacant",), "returns", "z", None, (), ("z", "z"), ("w",)):
            self.assertEqual(told(Barred, client, FOUR, CASE, kind), (kind,))
        for x in any_values():
            if x != ("a",):
                self.assertEqual(told(Barred, client, FOUR, CASE, x), (x,))

    def test_too_many(self):
        program = read_program("\n".join(f"class {name} error" for name in "abcde") + "\ndef f p\n  call p")
        self.assertEqual(told(TooMany, client, program, CASE, ("a",)), ("classes", 6))
        self.assertEqual(told(TooMany, client, program, CASE, "x"), ("classes", 6))


class TestHoldsClient(unittest.TestCase):

    def holds(self, rows, *record, kind=("z",), case=CASE, program=FOUR):
        return holds_client(program=program, case=case, kind=kind, client=Client(rows=rows, record=Record(*record)))

    def test_client(self):
        record = Record((CASE, ("later",)))
        one = Client((AB,), record)
        self.assertEqual(one.rows, (AB,))
        self.assertIs(one.record, record)
        self.assertTrue(holds_client(FOUR, CASE, ("z",), one))

    def test_kinds(self):
        self.assertTrue(self.holds((AB,), (CASE, ("later",))))
        for kind in FOUR.classes.kinds():
            self.assertEqual(self.holds((AB,), (CASE, ("later",)), kind=kind), kind == ("z",), kind)
        self.assertTrue(self.holds((), (CASE, ("a",)), kind=("a",)))
        self.assertTrue(self.holds((("x", "z", "vacant"), ("y", "x", "a")), (CASE, ("y",)), kind=("a", "vacant", "z")))
        self.assertFalse(self.holds((), (CASE, ("returns",)), kind=("a",)))
        self.assertFalse(self.holds((), (CASE, ("returns",)), kind="returns"))

    def test_later_classes_with_later_bases(self):
        rows = (("one", "a"), ("two", "b"), ("three", "one", "two", "error"))
        self.assertTrue(self.holds(rows, (CASE, ("three",))))
        self.assertFalse(self.holds(rows, (CASE, ("one",))))
        self.assertTrue(self.holds(rows, (CASE, ("one",)), kind=("a",)))

    def test_rows(self):
        for rows in ((), (("later", "a"),), (("later", "a", "error"),), (("other", "a", "b"),), (("later", "b", "a"),
                ("later", "a", "b")), (("later", "a", "b", "a"),), (("later", "a", "b", "x"),), (("a", "a", "b"),),
                ("later", "a", "b"), (["later", "a", "b"],), (("later", "a", "b"), ("x",)), (None,), (1, 2),
                tuple((f"k{a}{b}", "a") for a in "abcde" for b in "abcdef")):
            self.assertFalse(self.holds(rows, (CASE, ("later",))), rows)
        for x in any_values():
            self.assertFalse(self.holds((AB, x), (CASE, ("later",))), x)
        self.assertTrue(self.holds((("later", "b", "error", "a"), ("x", "later")), (CASE, ("x",))))

    def test_records(self):
        for record in (((CASE, ("later", "a")),), ((CASE, ()),), ((CASE, (0,)),), ((CASE, ("b",)),),
                ((("f", ("q",), None), ("later",)),), ((("f", ("p",), "a"), ("later",)),),
                ((("g", ("p",), None), ("later",)),), ((CASE, ("later",)), (CASE, ("returns",))),
                ((CASE, ("later",)), (CASE, ("x",)))):
            self.assertFalse(self.holds((AB,), *record), record)
        self.assertTrue(self.holds((AB,), (CASE, ("returns",)), (CASE, ("later",))))
        self.assertTrue(self.holds((AB,), (("f", ("p",), "later"), ("returns",)), (CASE, ("later",))))

    def test_handled(self):
        case = ("f", ("p",), ("a", "b"))
        rows = (AB, ("deep", "later"), ("flat", "a"))
        for handled, holds in (("later", True), ("deep", True), ("flat", False), ("a", False), (None, False)):
            self.assertEqual(self.holds(rows, (("f", ("p",), handled), ("deep",)), case=case), holds)
        self.assertTrue(self.holds(rows, (("f", ("p",), "flat"), ("later",)), case=("f", ("p",), ("a",))))
        self.assertFalse(self.holds(rows, (("f", ("p",), "flat"), ("later",))))

    def test_other_programs(self):
        other = read_program(P4.replace("raise z", "raise a"))
        self.assertFalse(self.holds((AB,), (CASE, ("later",)), program=other))
        self.assertTrue(self.holds((AB,), (CASE, ("later",)), program=other, kind=("a",)))

    def test_more_classes_than_kinds_can_be_told_of(self):
        program = read_program("\n".join(f"class {name} error" for name in "abcde") + "\ndef f p\n  call p")
        self.assertTrue(self.holds((AB,), (CASE, ("later",)), program=program, kind=("a", "b")))

    def test_nothing_is_changed(self):
        one = client(FOUR, CASE, ("z",))
        rows, record = one.rows, one.record.rows
        holds_client(FOUR, CASE, ("z",), one)
        self.assertEqual((one.rows, one.record.rows), (rows, record))


if __name__ == "__main__":
    unittest.main()
