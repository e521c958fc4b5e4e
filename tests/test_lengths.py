import unittest

from tests.plain_lengths import plain_lengths
from tests.samples import P1, P2, P3, P4
from tests.test_trails import AGAIN, STEPS
from whatleaves.lengths import length_closed, length_look, lengths_of, longest
from whatleaves.levels import Level
from whatleaves.paths import record_of
from whatleaves.plays import play
from whatleaves.reader import read_program
from whatleaves.tables import table_of
from whatleaves.trails import ByTrail, trails

ONE, TWO, THREE, FOUR = [read_program(text) for text in (P1, P2, P3, P4)]
F = ("f", (), None)
CLASSES = "class a error\nclass b error\nclass c error\n"
# Each of the functions lets an error leave whose trail is twice as long as that of the function before, and one more.
DOUBLE = "def f{0}\n  try\n    call f{1}\n  except error\n    call f{1}"


def doubling(many):
    """Functions f, fa, fb .. of which each doubles the trail of the one before."""
    names = [""] + list("abcdefghijk")[:many - 1]
    rows = [DOUBLE.format(names[k], names[k - 1]) for k in range(1, many)]
    return read_program(CLASSES + "def f\n  raise a\n" + "\n".join(rows)), f"f{names[many - 1]}"


def with_block(*rows):
    """A program whose function f has these rows; m raises b, k raises b from none, w returns or raises c."""
    return read_program(CLASSES + "def m\n  raise b\ndef k\n  raise b from none\ndef w\n  either\n    pass\n  or\n"
        "    raise c\ndef f\n" + "\n".join("  " + row for row in rows))


class TestLengthsOf(unittest.TestCase):

    def test_examples(self):
        table = lengths_of(program=THREE, case=F)
        self.assertEqual(table[F], {("a", False): None, ("c", False): 1})
        self.assertEqual(table[("f", (), "b")], {("a", True): None, ("c", True): 1})
        self.assertEqual(table[("m", (), None)], {("b", False): 1})
        self.assertEqual(table[("m", (), "b")], {("b", True): 1})
        self.assertEqual(len(table), 4)

    def test_more_programs(self):
        self.assertEqual(lengths_of(TWO, F), {F: {("a", False): 1}, ("whose", (), "a"): {("a", True): 0}})
        self.assertEqual(lengths_of(TWO, ("whose", (), None)), {("whose", (), None): {("vacant", False): 1}})
        self.assertEqual(lengths_of(ONE, ("f", ("p",), None)), {("f", ("p",), None): {}})
        self.assertEqual(lengths_of(FOUR, ("f", ("p",), None)), {("f", ("p",), None): {}})
        self.assertEqual(lengths_of(STEPS, F)[F], {("a", False): 1, ("b", False): 2, ("c", False): 3})
        self.assertEqual(lengths_of(AGAIN, F), {F: {("a", False): None}})

    def test_keys_come_about(self):
        program = with_block("call w", "try", "  call m", "except b", "  call w", "  call k")
        self.assertEqual(lengths_of(program, F), {F: {("c", False): 2, ("b", False): 1}, ("m", (), None): {("b",
            False): 1}, ("w", (), None): {"returns": 0, ("c", False): 1}, ("w", (), "b"): {"returns": 0, ("c",
            True): 1}, ("k", (), "b"): {("b", False): 1}})

    def test_same_class_open_and_not(self):
        program = read_program(
            CLASSES + "def g\n  either\n    again\n  or\n    raise c\n  or\n    raise c from none\n  or\n    try\n"
            "      raise a\n    except a\n      raise c\ndef f\n  try\n    raise c\n  except c\n    call g")
        table = lengths_of(program, F)
        self.assertEqual(table[("g", (), "c")], {("c", True): 2, ("c", False): 1})
        self.assertEqual(table[F], {("c", False): 3})

    def test_cases_are_those_of_the_table(self):
        for program, case in ((THREE, F), (STEPS, F), (TWO, F)):
            self.assertEqual(set(lengths_of(program, case)), set(table_of(program, Level(program.classes), case)))

    def test_closed_and_least(self):
        for program, case in ((THREE, F), (STEPS, F), (AGAIN, F), (TWO, F), (doubling(4)[0], ("fc", (), None))):
            table = lengths_of(program, case)
            self.assertTrue(length_closed(program, table))
            self.assertEqual(table, plain_lengths(program, list(table)))

    def test_what_is_told_may_be_changed(self):
        table = lengths_of(THREE, F)
        table[F][("a", False)] = 7
        del table[("m", (), None)]
        self.assertEqual(lengths_of(THREE, F)[F], {("a", False): None, ("c", False): 1})
        self.assertEqual(len(lengths_of(THREE, F)), 4)


class TestLongest(unittest.TestCase):

    def test_programs(self):
        self.assertIsNone(longest(program=THREE, case=F))
        self.assertIsNone(longest(AGAIN, F))
        self.assertEqual(longest(STEPS, F), 3)
        self.assertEqual(longest(TWO, F), 1)
        self.assertEqual(longest(TWO, ("whose", (), None)), 1)

    def test_none_leaves(self):
        self.assertEqual(longest(ONE, ("f", ("p",), None)), 0)
        self.assertEqual(longest(read_program("def f\n  pass"), F), 0)
        self.assertEqual(longest(read_program("def f\n  call f"), F), 0)
        self.assertEqual(longest(with_block("loop", "  try", "    call m", "  except b", "    call f", "return"), F), 0)

    def test_very_great_numbers(self):
        program, name = doubling(12)
        self.assertEqual(longest(program, (name, (), None)), 2 ** 11)
        rows = ["def fz\n  raise a"]
        names = "zabcdefghijk"
        for k in range(1, 12):
            rows.append(f"def f{names[k]}")
            # A chain of calls, each while the error of the one before is handled: seven times as long.
            for deep in range(6):
                rows.append("  " * (1 + deep) + "try")
            rows.append("  " * 7 + f"call f{names[k - 1]}")
            for deep in range(5, -1, -1):
                rows.extend(["  " * (1 + deep) + "except error", "  " * (2 + deep) + f"call f{names[k - 1]}"])
        program = read_program(CLASSES + "\n".join(rows))
        self.assertEqual(longest(program, ("fk", (), None)), 7 ** 11)
        table = lengths_of(program, ("fk", (), None))
        self.assertTrue(length_closed(program, table))
        self.assertEqual(table[("fk", (), None)], {("a", False): 7 ** 11})
        table[("fk", (), None)] = {("a", False): 7 ** 11 - 1}
        self.assertFalse(length_closed(program, table))

    def test_records_show_it(self):
        for program in (STEPS, TWO):
            (most,) = list(trails(program, F, 6))[-1:]
            record = record_of(program, ByTrail(program.classes, most), F, (most[0], 0))
            self.assertEqual(play(program, record).lengths[-1], longest(program, F))

    def test_functions_in_the_place_of_callbacks(self):
        program = read_program(P1 + "\ndef g\n  either\n    raise a\n  or\n    raise b")
        self.assertEqual(longest(program, ("f", ("g",), None)), 3)
        self.assertEqual(longest(program, ("f", ("p",), None)), 0)


class TestLengthLook(unittest.TestCase):

    def test_raise_and_again(self):
        program = with_block("either", "  raise a", "or", "  raise a from none", "or", "  again", "or", "  return")
        self.assertEqual(length_look(program, F, {}), {"returns": 0, ("a", False): 1, ("vacant", False): 1})
        self.assertEqual(length_look(program, ("f", (), "b"), {}), {"returns": 0, ("a", True): 1, ("a", False): 1, ("b",
            True): 0})

    def test_calls(self):
        program = with_block("call m")
        for length in (0, 1, 7, 10 ** 50, None):
            self.assertEqual(length_look(program, F, {("m", (), None): {("b", False): length}}), {("b", False): length})
            self.assertEqual(length_look(program, ("f", (), "a"), {("m", (), "a"): {("b", True): length, ("a",
                False): 2, "returns": 0}}), {("b", True): length, ("a", False): 2, "returns": 0})

    def test_fronts_behind_calls(self):
        program = with_block("try", "  raise a", "except a", "  try", "    raise c", "  except c", "    call m")
        table = {("m", (), "c"): {("b", True): 5, ("c", False): 4, ("c", True): 0}}
        self.assertEqual(length_look(program, F, table), {("b", False): 7, ("c", False): 4})
        self.assertEqual(length_look(program, ("f", (), "b"), table), {("b", True): 7, ("c", False): 4, ("c", True): 2})
        table = {("m", (), "c"): {("b", True): None, ("c", False): 4, ("c", True): 1}}
        self.assertEqual(length_look(program, F, table), {("b", False): None, ("c", False): 4})

    def test_greatest(self):
        program = with_block("either", "  call m", "or", "  call k", "or", "  try", "    call m", "  except b",
            "    raise b")
        table = {("m", (), None): {("b", False): 3}, ("k", (), None): {("b", False): 6}}
        self.assertEqual(length_look(program, F, table), {("b", False): 6})
        table = {("m", (), None): {("b", False): 6}, ("k", (), None): {("b", False): 6}}
        self.assertEqual(length_look(program, F, table), {("b", False): 7})
        table = {("m", (), None): {("b", False): 6}, ("k", (), None): {("b", False): None}}
        self.assertEqual(length_look(program, F, table), {("b", False): None})

    def test_bound_names(self):
        program = with_block("try", "  call m", "except b as n", "  try", "    raise a", "  except a as k", "    either",
            "      raise c from n", "    or", "      again n", "    or", "      raise c", "    or", "      again k")
        table = {("m", (), None): {("b", False): 10}, ("m", (), "c"): {("b", True): 20}}
        self.assertEqual(length_look(program, F, table), {("c", False): 12, ("b", False): 10, ("a", False): 11})
        self.assertEqual(length_look(program, ("f", (), "c"), table), {("c", True): 22, ("b", True): 20, ("a", True): 21})

    def test_finally_and_with(self):
        program = with_block("try", "  call m", "finally", "  call w")
        table = {("m", (), None): {("b", False): 10}, ("w", (), "b"): {"returns": 0, ("c", True): 5}}
        self.assertEqual(length_look(program, F, table), {("b", False): 10, ("c", False): 15})
        program = with_block("with w w quiet b", "  call m")
        table = {("m", (), None): {("b", False): 10}, ("w", (), "b"): {"returns": 0, ("c", True): 5}, ("w", (), None): {
            "returns": 0}}
        self.assertEqual(length_look(program, F, table), {"returns": 0, ("c", False): 15})

    def test_what_the_table_lacks(self):
        self.assertEqual(length_look(with_block("call m"), F, {}), {})
        self.assertEqual(length_look(with_block("call m"), F, {("m", (), "a"): {"returns": 0}}), {})
        self.assertEqual(length_look(with_block("call m"), F, {("m", (), None): {}}), {})

    def test_callbacks_do_nothing(self):
        self.assertEqual(length_look(ONE, ("f", ("p",), None), {}), {})
        program = read_program(P1 + "\ndef g\n  raise a")
        self.assertEqual(length_look(program=program, case=("f", ("g",), None), table={("g", (), None): {("a",
            False): 2}, ("g", (), "a"): {("b", True): 3}}), {("c", False): 6})

    def test_nothing_is_changed(self):
        table = {("m", (), None): {("b", False): 3}}
        found = length_look(with_block("call m"), F, table)
        found[("b", False)] = 4
        self.assertEqual(table, {("m", (), None): {("b", False): 3}})
        self.assertEqual(length_look(with_block("call m"), F, table), {("b", False): 3})


class TestLengthClosed(unittest.TestCase):

    def changed(self, case, key, length):
        table = lengths_of(THREE, F)
        table[case][key] = length
        return table

    def test_none_and_numbers(self):
        self.assertTrue(length_closed(program=THREE, table=lengths_of(THREE, F)))
        for case in (F, ("f", (), "b")):
            key = ("a", case[2] is not None)
            for length in (0, 5, 10 ** 90):
                self.assertFalse(length_closed(THREE, self.changed(case, key, length)))
            self.assertTrue(length_closed(THREE, self.changed(case, ("c", case[2] is not None), None)))
            self.assertTrue(length_closed(THREE, self.changed(case, ("c", case[2] is not None), 2)))
            self.assertFalse(length_closed(THREE, self.changed(case, ("c", case[2] is not None), 0)))

    def test_values_and_keys(self):
        program, name = doubling(6)
        case = (name, (), None)
        table = lengths_of(program, case)
        self.assertTrue(length_closed(program, table))
        for one, entry in table.items():
            for key in entry:
                for length in (entry[key] - 1, None, entry[key] + 1):
                    changed = {**table, one: {**entry, key: length}}
                    self.assertEqual(length_closed(program, changed), one == case and length != entry[key] - 1)
                self.assertFalse(length_closed(program, {**table, one: {k: entry[k] for k in entry if k != key}}))
            self.assertEqual(length_closed(program, {c: table[c] for c in table if c != one}), one == case)

    def test_returns(self):
        program = with_block("call w")
        table = lengths_of(program, F)
        self.assertEqual(table, {F: {"returns": 0, ("c", False): 1}, ("w", (), None): {"returns": 0, ("c", False): 1}})
        for length in (0, 3, None):
            self.assertTrue(length_closed(program, {**table, ("w", (), None): {"returns": length, ("c", False): 1}}))
        self.assertFalse(length_closed(program, {**table, F: {("c", False): 1}}))

    def test_cases_of_calls(self):
        self.assertTrue(length_closed(THREE, {}))
        self.assertTrue(length_closed(ONE, {("f", ("p",), None): {}}))
        # The call comes about, though nothing comes of it.
        program = with_block("call f", "call m")
        self.assertTrue(length_closed(program, {F: {}}))
        program = with_block("call k", "call m")
        self.assertFalse(length_closed(program, {F: {}}))
        self.assertFalse(length_closed(program, {F: {("b", False): 1}}))
        self.assertTrue(length_closed(program, {F: {("b", False): 1}, ("k", (), None): {("b", False): 1}}))

    def test_more_than_comes_about(self):
        table = lengths_of(THREE, F)
        table[("m", (), None)][("b", False)] = 9
        self.assertTrue(length_closed(THREE, table))
        table = lengths_of(TWO, F)
        table[F].update({"returns": 0, ("vacant", False): 3})
        self.assertTrue(length_closed(TWO, table))
        table[("whose", (), None)] = {}
        self.assertFalse(length_closed(TWO, table))

    def test_nothing_is_changed(self):
        table = lengths_of(THREE, F)
        length_closed(THREE, table)
        self.assertEqual(table, lengths_of(THREE, F))


if __name__ == "__main__":
    unittest.main()
