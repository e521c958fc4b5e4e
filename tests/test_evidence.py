import unittest

from tests.samples import P1, P3, told
from tests.test_lists import AB, AC, CALLS, CASE, EXAMPLE, NA, NB, NC, NINE, sets
from whatleaves.acts import Acts
from whatleaves.demands import Demands
from whatleaves.errors import TooMany
from whatleaves.evidence import evidence, holds_list
from whatleaves.lists import demands, lists_of
from whatleaves.plays import play
from whatleaves.reader import read_program
from whatleaves.records import Record

ONE, THREE = read_program(P1), read_program(P3)
ACTS = Acts(NA, NB, AB, ("p", "b", "returns"), ("p", "a", "a"), ("p", "a", "returns"), ("p", "b", "c"))


class TestEvidence(unittest.TestCase):

    def test_example(self):
        records, lists = evidence(ONE, EXAMPLE, CASE, "c")
        self.assertEqual(records, tuple(Record((CASE, choices)) for choices in (("c",), ("a", "b"), ("a", "c"))))
        self.assertEqual(lists, {CASE: {"c": demands(ONE, EXAMPLE, CASE, "c")}})
        self.assertTrue(holds_list(ONE, EXAMPLE, CASE, "c", records, lists))

    def test_records(self):
        for function, given in (("f", ("p",)), ("two", ("p", "p")), ("two", ("p", "g")), ("f", ("g",))):
            for handled in (None,) + CALLS.classes.names:
                for outcome in ("returns",) + CALLS.classes.names:
                    case = (function, given, handled)
                    records, lists = evidence(program=CALLS, acts=ACTS, case=case, outcome=outcome)
                    least = demands(CALLS, ACTS, case, outcome)
                    self.assertIsInstance(records, tuple)
                    self.assertEqual(lists, lists_of(CALLS, ACTS, case))
                    self.assertEqual([play(CALLS, record).acts for record in records], list(least.sets))
                    self.assertTrue(holds_list(CALLS, ACTS, case, outcome, records, lists))

    def test_never_and_always(self):
        case = ("f", (), None)
        self.assertEqual(evidence(ONE, Acts(), CASE, "c"), ((), {CASE: {}}))
        records, lists = evidence(THREE, Acts(), case, "a")
        self.assertEqual((len(records), play(THREE, records[0]).acts, lists[case]["a"]), (1, Acts(), Demands.always()))
        self.assertTrue(holds_list(THREE, Acts(), case, "a", records, lists))
        for outcome in ("b", "returns", "w"):
            records, lists = evidence(THREE, ACTS, case, outcome)
            self.assertEqual(records, ())
            self.assertTrue(holds_list(THREE, ACTS, case, outcome, records, lists))

    def test_too_many(self):
        records, lists = evidence(ONE, EXAMPLE, CASE, "c")
        self.assertEqual(told(TooMany, evidence, ONE, NINE, CASE, "c"), ("acts", 8))
        self.assertEqual(told(TooMany, holds_list, ONE, NINE, CASE, "c", records, lists), ("acts", 8))
        self.assertIsNone(told(TooMany, evidence, ONE, NINE - Acts(NC), CASE, "c"))

    def test_what_is_returned_may_be_changed(self):
        _, lists = evidence(ONE, EXAMPLE, CASE, "c")
        lists[CASE].clear()
        self.assertEqual(len(evidence(ONE, EXAMPLE, CASE, "c")[1][CASE]), 1)


class TestHoldsList(unittest.TestCase):

    def setUp(self):
        self.records, self.lists = evidence(CALLS, ACTS, CASE, "c")

    def holds(self, records=None, lists=None, program=CALLS, acts=ACTS, case=CASE, outcome="c"):
        return holds_list(program, acts, case, outcome, self.records if records is None else records,
            self.lists if lists is None else lists)

    def test_it_holds(self):
        self.assertEqual(len(self.records), 4)
        self.assertTrue(self.holds())
        self.assertTrue(self.holds(list(self.records)))
        self.assertTrue(holds_list(program=CALLS, acts=ACTS, case=CASE, outcome="c", records=self.records,
            lists=self.lists))

    def test_records_that_are_changed(self):
        for k in range(len(self.records)):
            self.assertFalse(self.holds(self.records[:k] + self.records[k + 1:]))
            self.assertFalse(self.holds(self.records[:k] + self.records[k:k + 1] * 2 + self.records[k + 1:]))
            for other in self.records[:k] + self.records[k + 1:]:
                self.assertFalse(self.holds(self.records[:k] + (other,) + self.records[k + 1:]))
            rows = self.records[k].rows
            for at, (case, choices) in enumerate(rows):
                renamed = tuple("b" if choice == "c" else choice for choice in choices)
                for less in (choices[:-1], choices + (0,), renamed):
                    if less != choices:
                        changed = Record(*rows[:at], (case, less), *rows[at + 1:])
                        self.assertFalse(self.holds(self.records[:k] + (changed,) + self.records[k + 1:]))
            for last in ((("f", ("p",), "c"), ()), (("g", (), None), ())):
                changed = Record(*rows, last)
                self.assertFalse(self.holds(self.records[:k] + (changed,) + self.records[k + 1:]))
        self.assertFalse(self.holds(()))
        self.assertFalse(self.holds(self.records[::-1]))

    def test_records_with_other_acts(self):
        case = ("f", ("p",), None)
        lists = lists_of(ONE, EXAMPLE, case)
        records = [Record((case, choices)) for choices in (("c",), ("a", "b"), ("a", "c"))]
        self.assertTrue(holds_list(ONE, EXAMPLE, case, "c", records, lists))
        # The right outcome of the right case, with more acts than the set.
        program = read_program("class a error\ndef f p\n  either\n    call p\n  or\n    pass\n  raise a")
        lists = lists_of(program, Acts(("p", None, "returns")), case)
        self.assertTrue(holds_list(program, Acts(("p", None, "returns")), case, "a", [Record((case, (1,)))], lists))
        self.assertFalse(holds_list(program, Acts(("p", None, "returns")), case, "a", [Record((case, (0, "returns")))],
            lists))
        # More rows than are needed do no harm.
        more = Record((case, (0, "returns")), (case, (1,)))
        self.assertTrue(holds_list(program, Acts(("p", None, "returns")), case, "a", [more], lists))

    def test_lists_that_are_changed(self):
        for case in self.lists:
            less = {one: entry for one, entry in self.lists.items() if one != case}
            self.assertFalse(self.holds(lists=less))
            for outcome, found in self.lists[case].items():
                entry = {one: d for one, d in self.lists[case].items() if one != outcome}
                self.assertFalse(self.holds(lists={**self.lists, case: entry}))
                for k in range(len(found)):
                    fewer = Demands(*found.sets[:k], *found.sets[k + 1:])
                    self.assertFalse(self.holds(lists={**self.lists, case: {**self.lists[case], outcome: fewer}}))
        self.assertFalse(self.holds(lists={}))

    def test_lists_with_too_much(self):
        entry = self.lists[CASE]
        more = {**self.lists, CASE: {**entry, "c": entry["c"] | sets((("p", "c", "a"),))}}
        self.assertFalse(self.holds(lists=more))
        # A set of acts that are not among the acts; the record would show it.
        case, acts = ("f", ("p",), None), Acts(NA)
        lists = {case: {"a": sets((NA,)), "b": sets((NB,))}}
        program = read_program("class a error\nclass b error\ndef f p\n  call p")
        self.assertTrue(holds_list(program, acts, case, "a", [Record((case, ("a",)))], lists))
        self.assertFalse(holds_list(program, acts, case, "b", [Record((case, ("b",)))], lists))
        self.assertTrue(holds_list(program, acts | Acts(NB), case, "b", [Record((case, ("b",)))], lists))

    def test_other_questions(self):
        self.assertFalse(self.holds(outcome="returns"))
        self.assertFalse(self.holds(outcome="b"))
        self.assertFalse(self.holds(case=("f", ("p",), "a")))
        self.assertFalse(self.holds(case=("f", ("q",), None)))
        self.assertFalse(self.holds(acts=ACTS - Acts(NB)))
        self.assertFalse(self.holds(acts=(ACTS - Acts(("p", "a", "a"))) | Acts(AC)))
        self.assertFalse(self.holds(records=(), outcome="c"))
        self.assertTrue(self.holds(records=(), outcome="w"))

    def test_nothing_is_changed(self):
        records, kept = list(self.records), {case: dict(entry) for case, entry in self.lists.items()}
        self.holds(records)
        self.assertEqual((tuple(records), self.lists), (self.records, kept))


if __name__ == "__main__":
    unittest.main()
