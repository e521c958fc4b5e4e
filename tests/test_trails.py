import unittest

from tests.samples import P1, P2, P3, told
from whatleaves.classes import Classes
from whatleaves.errors import Barred, TooMany
from whatleaves.functions import Function
from whatleaves.levels import Level
from whatleaves.paths import record_of
from whatleaves.plays import play
from whatleaves.programs import Program
from whatleaves.reader import read_program
from whatleaves.tables import closed, outcomes, table_of
from whatleaves.trails import ByTrail, ByWord, leaves, trails

ONE, TWO, THREE = [read_program(text) for text in (P1, P2, P3)]
F = ("f", (), None)
# Not the same outcome: the trails are a, b a and c b a, and no others.
STEPS = read_program("""\
class a error
class b error
class c error
def f
  either
    raise a
  or
    try
      call f
    except a
      raise b
    except b
      raise c""")
# The trails are all those of classes a.
AGAIN = read_program("""\
class a error
def f
  either
    raise a
  or
    try
      call f
    except error
      raise a""")


TEN = tuple(f"x{letter}" for letter in "abcdefghij")
G = ("g", (), None)


def raising(names, *more):
    """A block that raises one of these errors, or does one of the other blocks."""
    return (("either", *[(("raise", name),) for name in names], *more),)


def taking(block, *then):
    """A block in which all errors of a block are taken by a clause with these statements."""
    return (("try", block, ((("error",), None, then),), (), ()),)


def program_of(**blocks):
    """A program with ten classes and a function f that raises one of ten errors, and with these functions."""
    functions = [Function(name, block=block) for name, block in {"f": raising(TEN), **blocks}.items()]
    return Program(Classes(*[(name, "error") for name in TEN]), *functions)


class TestByTrail(unittest.TestCase):

    def setUp(self):
        self.classes = Classes(("a", "error"), ("b", "a"))
        self.level = ByTrail(self.classes, ("a", "b", "a", "error"))

    def test_attributes(self):
        self.assertIs(self.level.classes, self.classes)
        self.assertEqual((ByTrail.KIND, self.level.KIND), ("trail", "trail"))
        self.assertTrue(issubclass(ByTrail, Level))
        self.assertEqual(ByTrail(classes=self.classes, trail=("a",)).view("a"), ("a", 0))

    def test_view_without_a_cause(self):
        self.assertEqual([self.level.view(name) for name in ("error", "a", "b", "vacant")],
            [("error", 3), ("a", -1), ("b", -1), ("vacant", -1)])
        self.assertEqual(ByTrail(self.classes, ("a",)).view(name="a", cause=None), ("a", 0))

    def test_view_with_a_cause(self):
        views = {(name, cause): self.level.view(name, cause) for name in ("a", "b", "error") for cause in (("error", 3),
            ("a", 2), ("b", 1), ("a", 0), ("a", -1), ("error", -1))}
        self.assertEqual({key: view for key, view in views.items() if view[1] != -1}, {("a", ("error", 3)): ("a", 2), (
            "b", ("a", 2)): ("b", 1), ("a", ("b", 1)): ("a", 0)})
        self.assertTrue(all(view[0] == name for (name, cause), view in views.items()))

    def test_taken_and_does(self):
        for view in (("b", -1), ("b", 1)):
            self.assertTrue(self.level.taken(view, ("vacant", "a")))
            self.assertFalse(self.level.taken(view=view, names=["vacant"]))
            self.assertEqual(self.level.name_of(view=view), "b")
            self.assertEqual(self.level.does("p", view), ())
        self.assertFalse(self.level.taken(("a", 0), ("b",)))
        self.assertFalse(self.level.taken(("a", 0), ()))
        self.assertEqual(self.level.does(callback="p", handled=None), ())

    def test_trails_of_twelve(self):
        trail = ("b",) * 12
        level = ByTrail(self.classes, trail)
        view = None
        for k in range(12):
            view = level.view("b", view)
            self.assertEqual(view, ("b", 11 - k))
        self.assertEqual(level.view("b", view), ("b", -1))


class TestByWord(unittest.TestCase):

    def test_attributes(self):
        self.assertEqual((ByWord.KIND, ByWord(THREE.classes, 2).KIND), ("word", "word"))
        self.assertTrue(issubclass(ByWord, Level))
        self.assertIs(ByWord(classes=THREE.classes, most=1).classes, THREE.classes)

    def test_view(self):
        level = ByWord(THREE.classes, 2)
        self.assertEqual(level.view("a"), ("a",))
        self.assertEqual(level.view("a", ("b",)), ("a", "b"))
        self.assertEqual(level.view("a", ("b", "c")), ("a", ""))
        self.assertEqual(level.view(name="a", cause=("b", "")), ("a", ""))
        level = ByWord(THREE.classes, 1)
        self.assertEqual([level.view("a"), level.view("a", ("b",)), level.view("c", ("a", ""))], [("a",), ("a", ""), (
            "c", "")])
        level = ByWord(THREE.classes, 6)
        self.assertEqual(level.view("a", tuple("bbbbb")), tuple("abbbbb"))
        self.assertEqual(level.view("a", tuple("bbbbbb")), ("a", ""))

    def test_taken_and_does(self):
        level = ByWord(THREE.classes, 3)
        for view in (("a",), ("a", "b", "c"), ("a", "")):
            self.assertTrue(level.taken(view, ("b", "a")))
            self.assertTrue(level.taken(view=view, names=["error"]))
            self.assertFalse(level.taken(view, ("b", "c")))
            self.assertEqual((level.name_of(view=view), level.does("p", view)), ("a", ()))

    def test_tables(self):
        level = ByWord(THREE.classes, 3)
        table = table_of(THREE, level, F)
        self.assertEqual(table[F], (("a", ""), ("a", "c", "b"), ("c",)))
        self.assertEqual(table[("m", (), ("b", ""))], (("b", ""),))
        self.assertEqual(table[("f", (), ("b",))], (("a", ""), ("c", "b")))
        self.assertTrue(closed(THREE, level, table))
        self.assertEqual(outcomes(THREE, ByWord(THREE.classes, 1), F), (("a", ""), ("c",)))


class TestLeaves(unittest.TestCase):

    def shown(self, program, case, trail):
        """Whether the trail leaves, with a record that shows it, or a table that shows the contrary."""
        level = ByTrail(program.classes, trail)
        found = leaves(program=program, case=case, trail=trail)
        outcome = (trail[0], 0)
        if found:
            record = record_of(program, level, case, outcome)
            played = play(program, record)
            last = len(record) - 1
            self.assertEqual((record.rows[last][0], played.front(last), played.opens[last]), (case, trail, False))
        else:
            self.assertEqual(told(Barred, record_of, program, level, case, outcome), (outcome,))
            table = table_of(program, level, case)
            self.assertTrue(closed(program, level, table))
            self.assertNotIn(outcome, table[case])
        return found

    def test_p2(self):
        self.assertTrue(self.shown(TWO, ("whose", (), None), ("vacant",)))
        self.assertFalse(self.shown(TWO, F, ("vacant",)))
        self.assertTrue(self.shown(TWO, F, ("a",)))
        self.assertFalse(self.shown(TWO, F, ("a", "a")))

    def test_p3(self):
        for n in range(6):
            self.assertTrue(self.shown(THREE, F, ("a",) * n + ("c",) + ("b",) * n))
        for trail in ("acbb", "aacb", "a", "ac", "cb", "aac", "acba", "b"):
            self.assertFalse(self.shown(THREE, F, tuple(trail)), trail)
        self.assertFalse(self.shown(THREE, F, tuple("aaaaaacbbbbb")))

    def test_a_class_that_is_raised_by_itself_again_and_again(self):
        for n in range(1, 13):
            self.assertTrue(self.shown(AGAIN, F, ("a",) * n))
        self.assertFalse(self.shown(AGAIN, F, ("a",) * 11 + ("vacant",)))

    def test_steps(self):
        found = [trail for n in (1, 2, 3, 4) for trail in trails(AGAIN, F, n)]
        self.assertEqual(len(found), 10)
        words = [(a,) for a in "abc"] + [(a, b) for a in "abc" for b in "abc"] + [(a, b, c) for a in "abc" for b in "abc"
            for c in "abc"]
        self.assertEqual([word for word in words if self.shown(STEPS, F, word)], [("a",), ("b", "a"), ("c", "b", "a")])

    def test_callbacks_do_nothing(self):
        self.assertFalse(self.shown(ONE, ("f", ("p",), None), ("a",)))
        program = read_program(P1 + "\ndef g\n  either\n    raise a\n  or\n    raise b")
        case = ("f", ("g",), None)
        words = [tuple(word) for word in ("a", "b", "aa", "ab", "ba", "ca", "cba", "cab", "cb", "c")]
        self.assertEqual([word for word in words if self.shown(program, case, word)], [("b",), ("a", "a"), ("c", "b",
            "a")])


class TestTrails(unittest.TestCase):

    def test_p3(self):
        all_of_them = [("c",), ("a", "c", "b"), ("a", "a", "c", "b", "b")]
        for most in range(1, 7):
            self.assertEqual(list(trails(THREE, F, most)), [trail for trail in all_of_them if len(trail) <= most])
        self.assertEqual(list(trails(program=THREE, case=F, most=3)), all_of_them[:2])

    def test_more_programs(self):
        self.assertEqual(list(trails(TWO, F, 6)), [("a",)])
        self.assertEqual(list(trails(TWO, ("whose", (), None), 1)), [("vacant",)])
        self.assertEqual(list(trails(STEPS, F, 6)), [("a",), ("b", "a"), ("c", "b", "a")])
        self.assertEqual(list(trails(AGAIN, F, 6)), [("a",) * n for n in range(1, 7)])
        self.assertEqual(list(trails(ONE, ("f", ("p",), None), 3)), [])

    def test_a_generator(self):
        found = trails(THREE, F, 6)
        self.assertIs(iter(found), found)
        self.assertEqual(next(found), ("c",))
        self.assertEqual(list(found), [("a", "c", "b"), ("a", "a", "c", "b", "b")])
        self.assertEqual(list(found), [])

    def test_order(self):
        program = read_program("class b error\nclass a error\nclass aa error\ndef f\n  loop\n    try\n      either\n"
            "        raise b\n      or\n        raise aa\n      or\n        raise a\n    except aa b\n      raise a")
        self.assertEqual(list(trails(program, F, 2)), [("a",), ("a", "aa"), ("a", "b")])

    def test_hundred(self):
        program = program_of(g=taking((("call", "f"),), *raising(TEN[:9])))
        self.assertEqual(list(trails(program, G, 2)), [(a, b) for a in TEN[:9] for b in TEN])
        self.assertEqual(len(list(trails(program, G, 6))), 90)
        self.assertEqual(list(trails(program, G, 1)), [])

    def test_hundred_and_one(self):
        program = program_of(g=taking((("call", "f"),), *raising(TEN[:9], (("raise", "vacant", "none"),))))
        self.assertEqual(told(TooMany, next, trails(program, G, 2)), ("trails", 100))
        self.assertEqual(told(TooMany, list, trails(program, G, 6)), ("trails", 100))
        self.assertEqual(list(trails(program, G, 1)), [("vacant",)])
        self.assertEqual(len(list(trails(program, F, 2))), 10)

    def test_when_the_first_one_is_asked_for(self):
        found = trails(program_of(g=taking((("call", "f"),), *raising(TEN))), G, 2)
        self.assertEqual(told(TooMany, next, found), ("trails", 100))

    def test_what_is_neither_handled_at_a_call_nor_leaves_does_not_count(self):
        many = taking((("call", "f"),), *raising(TEN))
        for then in (("return",), ("raise", "xa", "none")):
            program = program_of(g=taking(many, then))
            self.assertEqual(list(trails(program, G, 3)), [] if then == ("return",) else [("xa",)])

    def test_what_is_handled_at_calls_counts(self):
        many = taking((("call", "f"),), *raising(TEN))
        for then in (("call", "h"), ("with", "h", "h", (), (("return",),))):
            program = program_of(h=(("return",),), g=taking(many, then))
            self.assertEqual(told(TooMany, next, trails(program, G, 2)), ("trails", 100))
            self.assertEqual(list(trails(program, G, 1)), [])

    def test_what_is_handled_in_a_finally_or_at_the_end_of_a_with_counts(self):
        many = taking((("call", "f"),), *raising(TEN))
        for block in ((("try", many, (), (), (("call", "h"), ("return",))),), taking((("with", "h", "h", ("error",),
                many),), ("pass",))):
            program = program_of(h=(("return",),), g=block)
            self.assertEqual(told(TooMany, next, trails(program, G, 2)), ("trails", 100))
            self.assertEqual(list(trails(program, G, 1)), [])

    def test_a_call_that_nothing_comes_of_counts(self):
        many = taking((("call", "f"),), *raising(TEN))
        program = program_of(h=(("call", "h"),), g=taking(many, ("call", "h")))
        self.assertEqual(told(TooMany, next, trails(program, G, 2)), ("trails", 100))

    def test_what_leaves_other_calls_counts(self):
        program = program_of(g=taking((("call", "f"),), *raising(TEN)), h=taking((("call", "g"),), ("return",)))
        self.assertEqual(told(TooMany, next, trails(program, ("h", (), None), 2)), ("trails", 100))
        self.assertEqual(list(trails(program, ("h", (), None), 1)), [])

    def test_trails_that_are_too_long_do_not_count(self):
        many = taking(taking((("call", "f"),), *raising(TEN)), ("raise", "xa"))
        program = program_of(g=many)
        self.assertEqual(list(trails(program, G, 1)), [])
        self.assertEqual(list(trails(program, G, 2)), [])
        self.assertEqual(told(TooMany, next, trails(program, G, 3)), ("trails", 100))
        program = program_of(g=taking(many, ("call", "g")))
        self.assertEqual(list(trails(program, G, 2)), [])

    def test_the_table_may_be_very_great(self):
        program = program_of(g=taking((("either", (("call", "g"),), (("raise", "xa"),)),), *raising(TEN)))
        self.assertEqual(told(TooMany, next, trails(program, G, 6)), ("trails", 100))
        self.assertEqual(list(trails(program, G, 1)), [])
        self.assertEqual(list(trails(program, G, 2)), [(name, "xa") for name in TEN])

    def test_many_trails_within_a_function(self):
        # Six times one of seven errors while the last one is handled: more than 100,000 trails, all of them taken.
        block = raising(TEN[:7])
        for _ in range(5):
            block = taking(block, *raising(TEN[:7]))
        program = program_of(g=taking(block, ("raise", "xa", "none")), h=block)
        self.assertEqual(list(trails(program, G, 6)), [("xa",)])
        self.assertEqual(told(TooMany, next, trails(program, ("h", (), None), 6)), ("trails", 100))
        self.assertEqual(list(trails(program, ("h", (), None), 5)), [])


if __name__ == "__main__":
    unittest.main()
