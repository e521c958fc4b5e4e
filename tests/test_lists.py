import unittest

from tests.samples import P1, P3, P4, told
from whatleaves.acts import Acts
from whatleaves.demands import Demands
from whatleaves.errors import TooMany
from whatleaves.lists import covered, demands, list_look, lists_of
from whatleaves.reader import read_program

ONE, THREE, FOUR = [read_program(text) for text in (P1, P3, P4)]
NA, NB, NC, NR = [("p", None, outcome) for outcome in ("a", "b", "c", "returns")]
AB, AC, AR = [("p", "a", outcome) for outcome in ("b", "c", "returns")]
CASE = ("f", ("p",), None)
EXAMPLE = Acts(NA, NC, AB, AC)
# f calls itself with what is handled, so that acts of p and of the calls in it are taken together.
CALLS = read_program("""\
class a error
class b error
class c error
def g
  raise b
def f p
  try
    call p
  except a
    call f p
  except b
    call two p g
def two p q
  try
    call q
  except b
    call p
    raise c""")
NINE = Acts(*[("p", None, name) for name in ("a", "b", "c", "error", "vacant", "returns")], AB, AC, ("p", "a", "w"))


def sets(*parts):
    return Demands(*[Acts(*part) for part in parts])


class TestDemandsOf(unittest.TestCase):

    def test_example(self):
        self.assertEqual(demands(ONE, EXAMPLE, CASE, "c").sets, (Acts(NC), Acts(NA, AB), Acts(NA, AC)))

    def test_p1(self):
        acts = EXAMPLE | Acts(NR, AR, ("p", "a", "a"), ("p", "b", "c"))
        self.assertEqual(demands(ONE, acts, CASE, "returns"), sets((NR,), (NA, AR)))
        self.assertEqual(demands(ONE, acts, CASE, "a"), sets((NA, ("p", "a", "a"))))
        self.assertEqual(demands(ONE, acts, CASE, "b"), Demands.never())
        self.assertEqual(demands(ONE, acts, ("f", ("p",), "a"), "c"), sets((AC,), (("p", "a", "a"), AB)))
        found = demands(program=ONE, acts=acts, case=("f", ("p",), "b"), outcome="c")
        self.assertEqual(found, sets((("p", "b", "c"),)))

    def test_always_and_never(self):
        self.assertEqual(demands(THREE, Acts(NA), ("f", (), None), "a"), Demands.always())
        self.assertEqual(demands(THREE, Acts(), ("f", (), None), "b"), Demands.never())
        self.assertEqual(demands(ONE, Acts(), CASE, "returns"), Demands.never())
        self.assertEqual(demands(ONE, EXAMPLE, CASE, "w"), Demands.never())
        self.assertEqual(demands(FOUR, Acts(*[("p", None, name) for name in FOUR.classes.names]), CASE, "z"), sets())

    def test_functions_and_callbacks(self):
        acts = Acts(NA, NB, AB, AR, ("p", "b", "returns"), ("p", "a", "a"))
        br = ("p", "b", "returns")
        self.assertEqual(demands(CALLS, acts, CASE, "returns"), sets((NA, AR)))
        self.assertEqual(demands(CALLS, acts, CASE, "c"), sets((NB, br), (NA, AB, br)))
        self.assertEqual(demands(CALLS, acts, ("f", ("p",), "a"), "c"), sets((AB, br)))
        self.assertEqual(demands(CALLS, acts, ("two", ("p", "p"), None), "c"), sets((NB, br)))
        self.assertEqual(demands(CALLS, acts, ("two", ("g", "p"), None), "b"), sets((NB,)))
        self.assertEqual(demands(CALLS, acts, ("f", ("g",), None), "b"), Demands.always())

    def test_acts_that_play_no_part(self):
        more = Acts(NA, AB, ("q", None, "c"), ("p", None, "w"), ("p", "w", "c"), ("f", None, "c"))
        self.assertEqual(demands(ONE, more, CASE, "c"), sets((NA, AB)))
        self.assertEqual(demands(ONE, more, ("f", ("q",), None), "c"), sets((("q", None, "c"),)))
        more = Acts(("p", None, "w"), ("p", "w", "a"))
        self.assertEqual(demands(ONE, more, CASE, "w"), Demands.never())

    def test_too_many(self):
        self.assertEqual(len(NINE), 9)
        lists = lists_of(ONE, EXAMPLE, CASE)
        for call in (
            lambda acts: demands(ONE, acts, CASE, "c"), lambda acts: lists_of(ONE, acts, CASE),
            lambda acts: list_look(ONE, acts, CASE, lists), lambda acts: covered(ONE, acts, {})):
            self.assertEqual(told(TooMany, call, NINE), ("acts", 8))
            self.assertIsNone(told(TooMany, call, NINE - Acts(NA)))

    def test_eight_acts(self):
        program = read_program("class a error\nclass b error\nclass c error\ndef f p q\n  try\n    call p\n  except a\n"
            "    try\n      call q\n    except b\n      either\n        call p\n      or\n        call q\n"
            "      raise c")
        acts = Acts(NA, ("q", "a", "b"), ("p", "b", "returns"), ("q", "b", "returns"), ("q", "a", "c"), NC, ("p", "b",
            "c"), ("q", "b", "c"))
        start = (NA, ("q", "a", "b"))
        self.assertEqual(len(acts), 8)
        self.assertEqual(demands(program, acts, ("f", ("p", "q"), None), "c"), sets((NC,), (NA, ("q", "a", "c")),
            *[start + (row,) for row in acts.rows if row[1] == "b"]))


class TestListLook(unittest.TestCase):

    def test_outcomes_without_functions(self):
        found = list_look(ONE, EXAMPLE, CASE, {})
        self.assertEqual(found, {"c": demands(ONE, EXAMPLE, CASE, "c")})
        self.assertEqual(list_look(ONE, Acts(), CASE, {}), {})
        self.assertEqual(list_look(ONE, Acts(NB, ("q", None, "c")), CASE, {}), {"b": sets((NB,))})

    def test_lists_need_not_be_right(self):
        acts = Acts(NA, NB, AB, AC)
        inner = ("f", ("p",), "a")
        self.assertEqual(list_look(CALLS, acts, CASE, {}), {})
        lists = {inner: {"returns": Demands.always(), "c": sets((AB,), (NB, AC)), "b": Demands.never()}}
        self.assertEqual(list_look(CALLS, acts, CASE, lists), {"returns": sets((NA,)), "c": sets((NA, AB), (NA, NB,
            AC))})
        lists = {inner: {"c": sets((AB, NC), (AC, NC))}}
        self.assertEqual(list_look(CALLS, acts, CASE, lists), {})
        self.assertEqual(list_look(program=CALLS, acts=acts | Acts(NC), case=CASE, lists=lists), {"c": sets((NC,), (NA,
            AB, NC), (NA, AC, NC))})

    def test_sets_with_acts_that_are_left_out(self):
        acts = Acts(NA, ("p", "a", "w"))
        lists = {("f", ("p",), "a"): {"c": sets((("p", "a", "w"),)), "b": sets((("p", "a", "w"),), (NA,))}}
        self.assertEqual(list_look(CALLS, acts, CASE, lists), {"b": sets((NA,))})

    def test_nothing_is_changed(self):
        lists = lists_of(CALLS, Acts(NA, AB), CASE)
        kept = {case: dict(entry) for case, entry in lists.items()}
        list_look(CALLS, Acts(NA, AB), CASE, lists).clear()
        covered(CALLS, Acts(NA, AB), lists)
        self.assertEqual(lists, kept)


class TestTablesOfLists(unittest.TestCase):

    def setUp(self):
        self.acts = Acts(NA, NB, AB, AR, ("p", "b", "returns"), ("p", "a", "a"))
        self.lists = lists_of(CALLS, self.acts, CASE)

    def test_lists_of(self):
        self.assertEqual(set(self.lists), {CASE, ("f", ("p",), "a"), ("two", ("p", "g"), "b"), ("g", (), "b")})
        for case, entry in self.lists.items():
            for outcome in ("returns",) + CALLS.classes.names:
                found = demands(CALLS, self.acts, case, outcome)
                self.assertEqual(entry.get(outcome, Demands.never()), found)
                self.assertEqual(outcome in entry, found != Demands.never())
        self.assertEqual(lists_of(ONE, Acts(), CASE), {CASE: {}})
        self.assertEqual(lists_of(program=ONE, acts=EXAMPLE, case=CASE), {CASE: {"c": demands(ONE, EXAMPLE, CASE,
            "c")}})

    def changed(self, case, outcome, demand):
        return {**self.lists, case: {**self.lists[case], outcome: demand}}

    def test_covered(self):
        self.assertTrue(covered(CALLS, self.acts, self.lists))
        self.assertTrue(covered(CALLS, self.acts, {}))
        self.assertTrue(covered(program=CALLS, acts=self.acts - Acts(NB), lists=self.lists))
        self.assertFalse(covered(CALLS, self.acts | Acts(NC), self.lists))
        for case in self.lists:
            less = {one: entry for one, entry in self.lists.items() if one != case}
            self.assertEqual(covered(CALLS, self.acts, less), case == CASE)
            for outcome, found in self.lists[case].items():
                entry = {one: d for one, d in self.lists[case].items() if one != outcome}
                self.assertFalse(covered(CALLS, self.acts, {**self.lists, case: entry}))
                self.assertFalse(covered(CALLS, self.acts, self.changed(case, outcome, Demands.never())))
                for k in range(len(found)):
                    fewer = Demands(*found.sets[:k], *found.sets[k + 1:])
                    self.assertFalse(covered(CALLS, self.acts, self.changed(case, outcome, fewer)))
                self.assertFalse(covered(CALLS, self.acts, self.changed(case, outcome, found & sets((("x", None,
                    "a"),)))))

    def test_lists_with_more_than_comes_about(self):
        self.assertTrue(covered(CALLS, self.acts, self.changed(CASE, "returns", Demands.always())))
        self.assertTrue(covered(CALLS, self.acts, self.changed(CASE, "vacant", sets((("x", "w", "a"),)))))
        # The outcome of a call that comes about in no set of acts lets other calls come about.
        lists = self.changed(("g", (), "b"), "a", sets((("x", None, "a"),)))
        self.assertTrue(covered(CALLS, self.acts, lists))
        program = read_program("class a error\ndef g\n  raise error\ndef f\n  try\n    call g\n  except a\n    call f\n"
            "  except error\n    pass")
        lists = lists_of(program, Acts(), ("f", (), None))
        self.assertTrue(covered(program, Acts(), lists))
        lists[("g", (), None)]["a"] = Demands.never()
        self.assertTrue(covered(program, Acts(), lists))
        lists[("g", (), None)]["a"] = sets((("x", None, "a"),))
        self.assertFalse(covered(program, Acts(), lists))

    def test_what_is_returned_may_be_changed(self):
        self.lists[CASE].clear()
        del self.lists[("g", (), "b")]
        self.assertEqual(len(lists_of(CALLS, self.acts, CASE)[CASE]), 2)
        found = list_look(ONE, EXAMPLE, CASE, {})
        found["c"] = None
        self.assertEqual(list_look(ONE, EXAMPLE, CASE, {}), {"c": demands(ONE, EXAMPLE, CASE, "c")})


if __name__ == "__main__":
    unittest.main()
