import itertools
import unittest

from tests.samples import any_values, told
from whatleaves.acts import Acts
from whatleaves.errors import NoAct

ONE = ("p", None, "a")
TWO = ("p", "a", "returns")
THREE = ("q", None, "returns")
FOUR = ("p", "a", "b")


class TestActs(unittest.TestCase):

    def test_rows(self):
        rows = (("q", None, "a"), ("p", "b", "a"), ("p", "a", "b"), ("p", "a", "a"), ("p", "a", "returns"), ("p",
            None, "z"),
                ("p", None, "returns"), ("p", "a", "b"), ("pa", None, "a"))
        ordered = (("p", None, "returns"), ("p", None, "z"), ("p", "a", "returns"), ("p", "a", "a"), ("p", "a", "b"),
            ("p", "b", "a"),
                   ("pa", None, "a"), ("q", None, "a"))
        self.assertEqual(Acts(*rows).rows, ordered)
        self.assertEqual(len(Acts(*rows)), 8)
        self.assertEqual((Acts().rows, len(Acts())), ((), 0))

    def test_returns_stands_ahead_of_any_class(self):
        self.assertEqual(Acts(("p", "a", "error"), ("p", "a", "zz"), ("p", "a", "returns")).rows[0][2], "returns")

    def test_made(self):
        self.assertEqual(Acts.made([TWO, ONE, TWO]), Acts(ONE, TWO))
        self.assertEqual(Acts.made(rows=(ONE,)).rows, (ONE,))
        self.assertEqual(told(NoAct, Acts.made, [ONE, None]), (1,))

    def test_any_values(self):
        for x in any_values():
            self.assertEqual(told(NoAct, Acts, ONE, TWO, x, None), (2,), repr(x)[:80])
            word = isinstance(x, str) and x in ("a", "f", "p", "error", "vacant", "abcdefgh")
            self.assertEqual(told(NoAct, Acts, (x, None, "a")), None if word else (0,))
            self.assertEqual(told(NoAct, Acts, ("p", x, "a")), None if word or x is None else (0,))
            self.assertEqual(told(NoAct, Acts, ("p", None, x)), None if word or x == "returns" else (0,))
        for row in (["p", None, "a"], ("p", None), ("p", None, "a", "a"), ("p", "returns", "a"), ("p", None, None),
            ("p", None, "raise")):
            self.assertEqual(told(NoAct, Acts, row), (0,))

    def test_contains(self):
        acts = Acts(ONE, TWO)
        self.assertTrue(ONE in acts and TWO in acts)
        self.assertFalse(THREE in acts or FOUR in acts or ["p", None, "a"] in acts or ("p", [], "a") in acts)
        self.assertEqual([x for x in any_values() if x in acts], [])

    def test_equal(self):
        self.assertTrue(Acts(ONE, TWO) == Acts(TWO, ONE, TWO))
        self.assertTrue(Acts(ONE) != Acts(TWO))
        self.assertFalse(Acts(ONE) == Acts(ONE, TWO))
        self.assertEqual([x for x in any_values() if Acts(ONE) == x], [Acts(ONE)])

    def test_operators_and_within(self):
        rows = (ONE, TWO, THREE, FOUR)
        parts = [part for many in range(5) for part in itertools.combinations(rows, many)]
        for x in parts:
            for y in parts:
                one, other = Acts(*x), Acts(*y)
                self.assertEqual(one | other, Acts(*set(x) | set(y)))
                self.assertEqual(one & other, Acts(*set(x) & set(y)))
                self.assertEqual(one - other, Acts(*set(x) - set(y)))
                self.assertEqual(one ^ other, Acts(*set(x) ^ set(y)))
                self.assertIs(one.within(other), set(x) <= set(y))
                self.assertEqual((one, other), (Acts(*x), Acts(*y)))
        self.assertIs(Acts().within(other=Acts()), True)

    def test_nothing_is_changed(self):
        rows = [TWO, ONE]
        acts = Acts.made(rows)
        self.assertEqual(rows, [TWO, ONE])
        rows.append(FOUR)
        self.assertEqual(acts.rows, (ONE, TWO))


if __name__ == "__main__":
    unittest.main()
