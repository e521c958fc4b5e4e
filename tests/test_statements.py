import inspect
import unittest

from tests.samples import FORMS, PASS, any_values, nested
from whatleaves.reader import read_program
from whatleaves.statements import is_statement, walk

RIGHT = [
    ("pass",), ("return",), ("break",), ("raise", "a"), ("raise", "a", "n"), ("raise", "a", "none"), ("again",),
    ("again", "n"), ("call", "f"), ("call", "f", "x"), ("call", "f", "x", "x", "y", "z"), ("handling", PASS, PASS),
    ("either", PASS, PASS), ("either", PASS, PASS, PASS, PASS), ("loop", PASS),
    ("try", PASS, (), (), PASS), ("try", PASS, ((("a",), None, PASS),), (), ()),
    ("try", PASS, ((("a", "b"), "n", PASS), (("a",), None, PASS)), PASS, PASS),
    ("try", PASS, ((("a",), "n", PASS),), PASS, ()), ("with", "f", "g", (), PASS), ("with", "f", "f", ("a", "b"), PASS),
    # What stands in a block is looked at later.
    ("loop", (None,)), ("handling", ("pass",), ([],)), ("try", (1,), (), (), ((),)),
]
WRONG = [
    (), ("pass", "pass"), ("return", None), ("break", ()), ("raise",), ("raise", "A"), ("raise", "a", None),
    ("raise", "none"), ("raise", "none", "n"), ("raise", None, "none"), ("raise", "a", "raise"), ("raise", "a", "n",
    "n"), ("raise", None), ("again", "none"),
    ("again", "n", "n"), ("again", ("n",)), ("call",), ("call", None), ("call", "f", "loop"), ("call", "f", ("x",)),
    ("handling", PASS), ("handling", PASS, PASS, PASS), ("handling", PASS, ()), ("either", PASS), ("either",),
    ("either", PASS, list(PASS)), ("either", PASS, PASS, ()), ("loop",), ("loop", ()), ("loop", "pass"),
    ("loop", PASS, PASS), ("try", PASS), ("try", PASS, (), (), ()), ("try", PASS, (), PASS, PASS),
    ("try", PASS, (), PASS, ()), ("try", (), (), (), PASS), ("try", PASS, [], (), PASS), ("try", PASS, (), (), [PASS]),
    ("try", PASS, None, (), PASS), ("try", PASS, ((("a",), None, PASS),), None, ()),
    ("try", PASS, ((("a",), None, PASS),), (), None), ("try", PASS, ((("a",), None, PASS), ()), (), ()),
    ("try", PASS, (((), None, PASS),), (), ()), ("try", PASS, ((("a", "a"), None, PASS),), (), ()),
    ("try", PASS, (("a", None, PASS),), (), ()), ("try", PASS, ((["a"], None, PASS),), (), ()),
    ("try", PASS, ((("a",), "none", PASS),), (), ()), ("try", PASS, ((("a",), (), PASS),), (), ()),
    ("try", PASS, ((("a",), None, ()),), (), ()), ("try", PASS, ((("a", 1), None, PASS),), (), ()),
    ("try", PASS, [(("a",), None, PASS)], (), ()), ("try", PASS, ([("a",), None, PASS],), (), ()),
    ("try", PASS, (), (), PASS, PASS), ("with", "f", "g", PASS), ("with", "f", "g", None, PASS),
    ("with", "f", "g", ("a", "a"), PASS), ("with", "f", "g", ["a"], PASS), ("with", "f", "g", (), ()),
    ("with", "f", None, (), PASS), ("with", "from", "g", (), PASS), ("with", "f", "g", ("none",), PASS),
    ("if", PASS), ("Pass",), (None,), (["pass"],), ({},), (0,), ("",), ["pass"], "pass",
]


class TestStatements(unittest.TestCase):

    def test_right_forms(self):
        for statement in RIGHT:
            self.assertTrue(is_statement(statement), statement)

    def test_wrong_forms(self):
        for statement in WRONG:
            self.assertFalse(is_statement(statement), statement)

    def test_any_values(self):
        for x in any_values():
            self.assertFalse(is_statement(x), repr(x)[:80])
            self.assertFalse(is_statement((x,)), repr(x)[:80])

    def test_any_values_within_forms(self):
        words = ("a", "f", "p", "error", "vacant", "abcdefgh")
        blocks = [x for x in any_values() if isinstance(x, tuple) and len(x) > 0]
        for x in any_values():
            word = isinstance(x, str) and x in words
            self.assertEqual(is_statement(("raise", x)), word)
            self.assertEqual(is_statement(("raise", "a", x)), word or x == "none")
            self.assertEqual(is_statement(("again", x)), word)
            self.assertEqual(is_statement(("call", "f", x)), word)
            self.assertEqual(is_statement(("call", x)), word)
            self.assertEqual(is_statement(("loop", x)), x in blocks)
            self.assertEqual(is_statement(("handling", x, PASS)), x in blocks)
            self.assertEqual(is_statement(("either", PASS, x)), x in blocks)
            self.assertEqual(is_statement(("try", x, (), (), PASS)), x in blocks)
            self.assertEqual(is_statement(("try", PASS, ((("a",), x, PASS),), (), ())), word or x is None)
            self.assertEqual(is_statement(("try", PASS, (((x,), None, PASS),), (), ())), word)
            self.assertEqual(is_statement(("try", PASS, ((("a",), None, x),), (), ())), x in blocks)
            self.assertEqual(is_statement(("try", PASS, ((("a",), None, PASS),), x, ())), x == () or x in blocks)
            self.assertEqual(is_statement(("try", PASS, (), (), x)), x in blocks)
            self.assertEqual(is_statement(("with", x, "g", (), PASS)), word)
            self.assertEqual(is_statement(("with", "f", x, (), PASS)), word)
            self.assertEqual(is_statement(("with", "f", "g", (), x)), x in blocks)
            self.assertEqual(is_statement(("with", "f", "g", (x,), PASS)), word)

    def test_reading_order(self):
        block = (
            ("try", (("raise", "a"), ("pass",)), ((("a",), None, (("raise", "b"),)), (("b",), "n", (("again", "n"),))),
             (("raise", "c"),), (("return",),)),
            ("handling", (("raise", "d"),), (("loop", (("either", (("break",),), (("raise", "e"),)),)),)),
            ("with", "f", "f", (), (("raise", "f"),)),
            ("again",),
        )
        said = [" ".join(x for x in step if isinstance(x, str)) for step in walk(block)]
        self.assertEqual(said, [
            "try", "raise a", "pass", "raise b", "again n", "raise c", "return", "handling", "raise d", "loop",
            "either",
            "break", "raise e", "with f f", "raise f", "again"])

    def test_walk_is_a_generator(self):
        self.assertTrue(inspect.isgenerator(walk(PASS)))
        self.assertEqual(list(walk(block=PASS)), [("pass",)])
        steps = walk((("loop", PASS), ("again",)))
        self.assertEqual(next(steps), ("loop", PASS))
        self.assertEqual(next(steps), ("pass",))

    def test_walk_over_each_form(self):
        for function in read_program(FORMS).functions:
            rows = [step[0] for step in walk(function.block)]
            self.assertEqual(len(rows), len(function))
        self.assertEqual(rows[:6], ["return", "loop", "break", "raise", "raise", "again"])
        self.assertEqual(len(rows), 38)

    def test_walk_is_not_bound_by_depth(self):
        self.assertEqual(len(list(walk(nested(5000)))), 5000)


if __name__ == "__main__":
    unittest.main()
