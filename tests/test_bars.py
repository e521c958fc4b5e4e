import itertools
import unittest

from tests.samples import P1, P3, told
from tests.test_lists import AB, AC, CALLS, CASE, EXAMPLE, NA, NB, NC, NINE, sets
from whatleaves.acts import Acts
from whatleaves.bars import bars, holds_bar
from whatleaves.demands import Demands
from whatleaves.errors import TooMany
from whatleaves.levels import ByClass
from whatleaves.reader import read_program
from whatleaves.tables import outcomes, table_of

ONE, THREE = read_program(P1), read_program(P3)
ACTS = Acts(NA, NB, AB, ("p", "b", "returns"), ("p", "a", "a"), ("p", "a", "returns"), ("p", "b", "c"))


def without(program, acts, bar, case):
    return table_of(program, ByClass(program.classes, acts - bar), case)


class TestBars(unittest.TestCase):

    def test_example(self):
        self.assertEqual(bars(ONE, EXAMPLE, CASE, "c"), sets((NA, NC), (NC, AB, AC)))

    def test_always_and_never(self):
        self.assertEqual(bars(ONE, EXAMPLE, CASE, "returns"), Demands.always())
        self.assertEqual(bars(ONE, EXAMPLE, CASE, "w"), Demands.always())
        self.assertEqual(bars(program=THREE, acts=EXAMPLE, case=("f", (), None), outcome="a"), Demands.never())
        self.assertEqual(bars(ONE, Acts(), CASE, "c"), Demands.always())

    def test_a_set_lets_the_outcome_if_the_rest_contains_no_bar(self):
        for case in (CASE, ("f", ("p",), "a"), ("two", ("p", "p"), None), ("two", ("g", "p"), None)):
            for outcome in ("returns",) + CALLS.classes.names:
                found = bars(CALLS, ACTS, case, outcome)
                for many in range(len(ACTS) + 1):
                    for rows in itertools.combinations(ACTS.rows, many):
                        acts = Acts(*rows)
                        lets = outcome in outcomes(CALLS, ByClass(CALLS.classes, acts), case)
                        self.assertEqual(lets, not found(ACTS - acts))
                for bar in found.sets:
                    self.assertTrue(holds_bar(CALLS, ACTS, case, outcome, bar, without(CALLS, ACTS, bar, case)))

    def test_too_many(self):
        self.assertEqual(told(TooMany, bars, ONE, NINE, CASE, "c"), ("acts", 8))
        self.assertEqual(told(TooMany, holds_bar, ONE, NINE, CASE, "c", Acts(), {}), ("acts", 8))
        self.assertIsNone(told(TooMany, bars, ONE, NINE - Acts(NA), CASE, "c"))


class TestHoldsBar(unittest.TestCase):

    def setUp(self):
        self.bar = Acts(NB, AB)
        self.table = without(CALLS, ACTS, self.bar, CASE)

    def holds(self, bar=None, table=None, acts=ACTS, case=CASE, outcome="c"):
        return holds_bar(CALLS, acts, case, outcome, self.bar if bar is None else bar,
            self.table if table is None else table)

    def test_it_holds(self):
        self.assertTrue(self.holds())
        self.assertTrue(self.holds(outcome="vacant"))
        self.assertTrue(holds_bar(program=CALLS, acts=ACTS, case=CASE, outcome="c", bar=self.bar, table=self.table))
        self.assertTrue(self.holds(table={case: list(entry) for case, entry in self.table.items()}))

    def test_other_bars(self):
        for row in self.bar.rows:
            less = self.bar - Acts(row)
            self.assertFalse(self.holds(bar=less))
            self.assertFalse(self.holds(less, without(CALLS, ACTS, less, CASE)))
        for row in (ACTS - self.bar).rows:
            more = self.bar | Acts(row)
            self.assertTrue(self.holds(bar=more))
            self.assertTrue(self.holds(more, without(CALLS, ACTS, more, CASE)))
        self.assertFalse(self.holds(bar=Acts()))
        self.assertTrue(self.holds(bar=ACTS))
        self.assertFalse(self.holds(bar=self.bar | Acts(NC)))
        self.assertFalse(self.holds(bar=self.bar | Acts(("p", "w", "a"))))

    def test_acts_that_are_left_out(self):
        nonsense = Acts(("p", "w", "a"))
        self.assertTrue(self.holds(acts=ACTS | nonsense))
        self.assertFalse(self.holds(acts=ACTS | nonsense, bar=self.bar | nonsense))

    def test_other_tables(self):
        self.assertFalse(self.holds(table={}))
        for case, entry in self.table.items():
            self.assertFalse(self.holds(table={one: found for one, found in self.table.items() if one != case}))
            for outcome in entry:
                less = {**self.table, case: [one for one in entry if one != outcome]}
                self.assertFalse(self.holds(table=less))
        self.assertFalse(self.holds(table={**self.table, CASE: self.table[CASE] + ("c",)}))
        self.assertTrue(self.holds(table={**self.table, CASE: self.table[CASE] + ("b",)}))
        self.assertFalse(self.holds(table=without(CALLS, ACTS, Acts(), CASE)))

    def test_other_questions(self):
        self.assertFalse(self.holds(outcome="returns"))
        self.assertFalse(self.holds(case=("f", ("p",), "vacant")))
        self.assertFalse(self.holds(acts=ACTS | Acts(NC)))

    def test_nothing_is_changed(self):
        kept = dict(self.table)
        self.holds()
        self.assertEqual(self.table, kept)


if __name__ == "__main__":
    unittest.main()
