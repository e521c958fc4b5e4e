import itertools
import unittest

from tests.samples import any_values, told
from whatleaves.classes import Classes
from whatleaves.errors import NoClass, TooMany

DIAMOND = (("a", "error"), ("b", "a"), ("c", "a", "vacant"), ("d", "b", "c"))
LETTERS = "abcdefghijklmnopqrstuvwxyz"


def many_rows(many):
    return tuple(("xyz"[k // 26] + LETTERS[k % 26], "error") for k in range(many))


class TestClasses(unittest.TestCase):

    def test_plain(self):
        plain = Classes.plain()
        self.assertEqual(plain, Classes())
        self.assertEqual((plain.rows, plain.names, len(plain)), ((), ("error", "vacant"), 2))
        self.assertTrue(plain.within("vacant", "error"))
        self.assertFalse(plain.within("error", "vacant"))

    def test_attributes(self):
        classes = Classes(*DIAMOND)
        self.assertEqual(classes.rows, DIAMOND)
        self.assertEqual(classes.names, ("error", "vacant", "a", "b", "c", "d"))
        self.assertEqual(len(classes), 6)

    def test_made(self):
        self.assertEqual(Classes.made(DIAMOND), Classes(*DIAMOND))
        self.assertEqual(Classes.made(list(DIAMOND)).rows, DIAMOND)
        self.assertEqual(Classes.made(rows=[]), Classes.plain())

    def test_thirty_rows(self):
        rows = many_rows(31)
        self.assertEqual(len(Classes(*rows[:30])), 32)
        self.assertEqual(told(NoClass, Classes, *rows), ("many", 30))
        for x in any_values():
            self.assertEqual(told(NoClass, Classes, *rows[:30], x), ("many", 30))
        self.assertEqual(told(NoClass, Classes, *rows[:29], ("a",), ("b", "error"), 5), ("row", 29))

    def test_row(self):
        right = [("a", "error")]
        for x in any_values():
            expected = None if x in right else ("row", 0)
            self.assertEqual(told(NoClass, Classes, x), expected, repr(x)[:80])
        for row in (("a",), (), ("a", "raise"), ("none", "error"), ("a", "error", "Error"), ["a", "error"]):
            self.assertEqual(told(NoClass, Classes, ("b", "error"), row), ("row", 1))

    def test_name(self):
        for row in (("error", "vacant"), ("vacant", "error"), ("a", "vacant")):
            self.assertEqual(told(NoClass, Classes, ("a", "error"), row), ("name", 1))

    def test_base(self):
        rows = (("b", "b"), ("b", "c"), ("b", "error", "error"), ("b", "a", "vacant", "a"), ("b", "a", "x"))
        for row in rows:
            self.assertEqual(told(NoClass, Classes, ("a", "error"), row, ("c", "error")), ("base", 1))
        self.assertIsNone(told(NoClass, Classes, ("a", "error"), ("b", "error", "a", "vacant")))

    def test_first_fault(self):
        self.assertEqual(told(NoClass, Classes, ("a", "b", "b"), None), ("base", 0))
        self.assertEqual(told(NoClass, Classes, ("error", "b", 3)), ("row", 0))
        self.assertEqual(told(NoClass, Classes, ("error", "b", "b")), ("name", 0))

    def test_contains(self):
        classes = Classes(*DIAMOND)
        self.assertEqual([x for x in any_values() if x in classes], ["a", "error", "vacant"])

    def test_equal(self):
        classes = Classes(("a", "error"), ("b", "error", "a"))
        self.assertTrue(classes == Classes(("a", "error"), ("b", "error", "a")))
        self.assertFalse(classes == Classes(("a", "error"), ("b", "a", "error")))
        self.assertTrue(classes != Classes(("a", "error")))
        self.assertEqual([x for x in any_values() if Classes(("a", "error")) == x], [Classes(("a", "error"))])
        self.assertIs(classes == classes.rows, False)

    def test_within(self):
        classes = Classes(*DIAMOND)
        above = {"error": "", "vacant": "error", "a": "error", "b": "a error", "c": "a vacant error",
                 "d": "b c a vacant error"}
        for one in classes.names:
            for other in classes.names:
                expected = one == other or other in above[one].split(" ")
                self.assertIs(classes.within(one, other), expected, (one, other))
        self.assertIs(classes.within(other="a", one="d"), True)

    def test_with_rows(self):
        classes = Classes(*DIAMOND[:2])
        self.assertEqual(classes.with_rows(*DIAMOND[2:]), Classes(*DIAMOND))
        self.assertEqual(classes.with_rows(), classes)
        self.assertEqual(classes.rows, DIAMOND[:2])
        self.assertEqual(told(NoClass, classes.with_rows, DIAMOND[2], ("a", "error")), ("name", 3))
        self.assertEqual(told(NoClass, classes.with_rows, None), ("row", 2))
        full = Classes(*many_rows(30))
        self.assertEqual(told(NoClass, full.with_rows, ("a",)), ("many", 30))

    def test_nothing_is_changed(self):
        rows = [("a", "error"), ("b", "a")]
        classes = Classes.made(rows)
        classes.with_rows(("c", "b"))
        self.assertEqual(rows, [("a", "error"), ("b", "a")])
        rows.append(("c", "b"))
        self.assertEqual(len(classes), 4)


class TestKinds(unittest.TestCase):

    def test_kind_of_the_document(self):
        classes = Classes(("a", "error"))
        self.assertEqual(classes.kind("error", "a", "vacant"), ("a", "vacant"))
        self.assertEqual(Classes.plain().kinds(), (("error",), ("vacant",)))

    def test_kind(self):
        classes = Classes(*DIAMOND)
        self.assertEqual(classes.kind("error"), ("error",))
        self.assertEqual(classes.kind("b", "b"), ("b",))
        self.assertEqual(classes.kind("vacant", "b", "a", "vacant"), ("b", "vacant"))
        self.assertEqual(classes.kind("c", "b", "vacant"), ("b", "c"))
        self.assertEqual(classes.kind("d", "c", "b", "a"), ("d",))

    def test_kinds_by_their_definition(self):
        for rows in ((), (("z", "error"),), DIAMOND, (("d", "error"), ("c", "error"), ("b", "d"), ("a", "vacant",
            "d"))):
            classes = Classes(*rows)
            expected = []
            for many in range(1, len(classes) + 1):
                for part in itertools.combinations(sorted(classes.names), many):
                    if not any(classes.within(x, y) for x in part for y in part if x != y):
                        expected.append(part)
            self.assertEqual(classes.kinds(), tuple(sorted(expected)))

    def test_six_and_seven_classes(self):
        six = Classes(*many_rows(4))
        self.assertEqual(len(six.kinds()), 2 ** 5)
        for many in (5, 30):
            self.assertEqual(told(TooMany, Classes(*many_rows(many)).kinds), ("classes", 6))

    def test_meets(self):
        classes = Classes(*DIAMOND)
        self.assertIs(classes.meets(("b", "vacant"), ("c", "a")), True)
        self.assertIs(classes.meets(("b", "vacant"), ["c", "d"]), False)
        self.assertIs(classes.meets(("b",), ()), False)
        self.assertIs(classes.meets(("b", "vacant"), ["vacant"]), True)
        self.assertIs(classes.meets(names=("error",), kind=("error",)), True)
        self.assertIs(classes.meets(("a",), ("b", "c")), False)

    def test_kind_of(self):
        among = Classes(*DIAMOND[:2])
        classes = among.with_rows(("x", "b", "vacant"), ("y", "x", "error"), ("z", "error"))
        kinds = [classes.kind_of(name, among) for name in classes.names]
        self.assertEqual(kinds, [("error",), ("vacant",), ("a",), ("b",), ("b", "vacant"), ("b", "vacant"), ("error",)])
        self.assertEqual(classes.kind_of(name="x", among=classes), ("x",))

    def test_is_kind(self):
        classes = Classes(*DIAMOND)
        self.assertTrue(all(classes.is_kind(kind) for kind in classes.kinds()))
        for x in (("vacant", "b"), ("b", "b"), ("a", "b"), ("x",), (), ["a"], "a", None, (None,), ([],)):
            self.assertFalse(classes.is_kind(x))


if __name__ == "__main__":
    unittest.main()
