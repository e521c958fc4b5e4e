import unittest

from tests.samples import CALL_P, PASS, any_values, nested, told
from whatleaves.errors import NoFunction
from whatleaves.functions import Function


def fault(*block):
    """The reason and the place for which a function with this block is refused, or None."""
    return told(NoFunction, Function, "f", "p", block=block)


def clause(block, n=None, names=("a",)):
    """A try with one clause."""
    return ("try", PASS, ((names, n, block),), (), ())


class TestFunctions(unittest.TestCase):

    def test_attributes(self):
        function = Function("f", "p", "q", block=CALL_P)
        self.assertEqual((function.name, function.callbacks, function.block), ("f", ("p", "q"), CALL_P))
        self.assertEqual(Function("error", block=PASS).callbacks, ())

    def test_made(self):
        function = Function.made("f", ["p"], CALL_P)
        self.assertEqual(function, Function("f", "p", block=CALL_P))
        self.assertEqual(function.callbacks, ("p",))
        self.assertEqual(Function.made(block=PASS, callbacks=(), name="g"), Function("g", block=PASS))
        self.assertEqual(told(NoFunction, Function.made, "f", ["p", "p"], PASS), ("callback", 1))

    def test_len(self):
        self.assertEqual(len(Function("f", block=PASS)), 1)
        self.assertEqual(len(Function("f", block=(("either", PASS * 2, (clause(PASS * 3),)), ("pass",)))), 9)

    def test_equal(self):
        function = Function("f", "p", block=CALL_P)
        self.assertTrue(function == Function("f", "p", block=CALL_P))
        self.assertFalse(function == Function("g", "p", block=CALL_P))
        self.assertFalse(function == Function("f", "p", "q", block=CALL_P))
        self.assertTrue(function != Function("f", "p", block=PASS))
        self.assertEqual([x for x in any_values() if Function("f", block=PASS) == x], [Function("f", block=PASS)])

    def test_name(self):
        for x in any_values():
            refused = not (isinstance(x, str) and x in ("a", "f", "p", "error", "vacant", "abcdefgh"))
            self.assertEqual(told(NoFunction, Function, x, block=PASS), ("name", None) if refused else None)

    def test_callback(self):
        for x in any_values():
            refused = not (isinstance(x, str) and x in ("a", "p", "error", "vacant", "abcdefgh"))
            self.assertEqual(told(NoFunction, Function, "f", x, block=PASS), ("callback", 0) if refused else None)
            refused = refused or x == "p"
            self.assertEqual(told(NoFunction, Function, "f", "p", x, block=PASS), ("callback", 1) if refused else None)
            self.assertEqual(told(NoFunction, Function, "f", "p", "q", x, block=PASS), ("callback", 2))

    def test_block(self):
        for x in any_values():
            if not isinstance(x, tuple) or len(x) == 0:
                self.assertEqual(told(NoFunction, Function, "f", block=x), ("block", None), repr(x)[:80])
            elif x != PASS:
                self.assertEqual(told(NoFunction, Function, "f", block=x), ("form", 0), repr(x)[:80])

    def test_many(self):
        sixty = PASS * 58 + (("loop", PASS),)
        self.assertEqual(len(Function("f", block=sixty)), 60)
        self.assertEqual(fault(*PASS * 61), ("many", 60))
        self.assertEqual(fault(*sixty, None), ("many", 60))
        self.assertEqual(fault(*PASS * 59, ("loop", (None,))), ("many", 60))
        self.assertEqual(fault(*PASS * 59, None, None), ("form", 59))
        self.assertEqual(fault(*PASS * 59, ("loop", ())), ("form", 59))

    def test_deep(self):
        self.assertEqual(len(Function("f", block=nested(12))), 12)
        self.assertEqual(fault(*nested(13)), ("deep", 12))
        self.assertEqual(fault(("pass",), *nested(14), None), ("deep", 13))
        wrong = (None,)
        for _ in range(12):
            wrong = (("loop", wrong),)
        self.assertEqual(fault(*wrong), ("deep", 12))

    def test_deep_in_each_form(self):
        for form in (
                lambda block: ("handling", PASS, block), lambda block: ("either", PASS, block),
                lambda block: ("try", block, (), (), PASS), lambda block: ("try", PASS, (), (), block),
                lambda block: ("with", "p", "p", (), block)):
            block = PASS
            for _ in range(11):
                block = (form(block),)
            self.assertIsNone(fault(*block))
            self.assertEqual(fault(form(block))[0], "deep")

    def test_very_deep(self):
        for depth in (100, 1000, 5000, 50000):
            self.assertEqual(fault(*nested(depth)), ("deep", 12))
        self.assertEqual(fault(("raise", nested(5000))), ("form", 0))
        self.assertEqual(fault(("try", PASS, nested(5000), (), ())), ("form", 0))
        self.assertEqual(fault(nested(5000)), ("form", 0))
        self.assertEqual(told(NoFunction, Function, nested(5000), block=PASS), ("name", None))
        self.assertEqual(told(NoFunction, Function, "f", nested(5000), block=PASS), ("callback", 0))

    def test_form(self):
        for x in any_values():
            self.assertEqual(fault(("pass",), x, None), ("form", 1))
            self.assertEqual(fault(("loop", ((x,),)), None), ("form", 1))
        self.assertEqual(fault(("handling", ("pass",), PASS)), ("form", 1))
        self.assertEqual(fault(("either", PASS, ((), ()))), ("form", 2))
        self.assertEqual(fault(("try", PASS, ((("a",), None, (None,)),), ("x",), ())), ("form", 2))
        self.assertEqual(fault(("try", PASS, ((("a",), None, PASS),), ("x",), ("y",))), ("form", 3))
        self.assertEqual(fault(("with", "p", "p", (), ((),))), ("form", 1))

    def test_break(self):
        stop = (("break",),)
        self.assertEqual(fault(*stop), ("break", 0))
        self.assertIsNone(fault(("loop", stop)))
        self.assertEqual(fault(("loop", PASS), ("break",)), ("break", 2))
        self.assertIsNone(fault(("loop", (("try", PASS, ((("a",), None, stop),), stop, stop),))))
        self.assertIsNone(fault(("loop", (("with", "p", "p", (), (("handling", stop, (("either", stop, PASS),)),)),))))
        self.assertEqual(fault(("try", PASS, (), (), stop)), ("break", 2))

    def test_bound(self):
        for use in (("again", "n"), ("raise", "a", "n")):
            self.assertEqual(fault(use), ("bound", 0))
            self.assertIsNone(fault(clause((use,), "n")))
            self.assertEqual(fault(clause((use,))), ("bound", 2))
            self.assertEqual(fault(clause(PASS, "n"), use), ("bound", 3))
            self.assertEqual(fault(("try", PASS, ((("a",), "n", PASS), (("b",), None, (use,))), (), ())), ("bound", 3))
            self.assertEqual(fault(("try", (use,), ((("a",), "n", PASS),), (), ())), ("bound", 1))
            self.assertEqual(fault(("try", PASS, ((("a",), "n", PASS),), (use,), ())), ("bound", 3))
            self.assertEqual(fault(("try", PASS, ((("a",), "n", PASS),), (), (use,))), ("bound", 3))
            deep = ("loop", (("try", (("handling", PASS, (use,)),), (), (), (("with", "p", "p", (), (use,)),)),))
            self.assertIsNone(fault(clause((deep,), "n")))
            self.assertIsNone(fault(clause((clause((use,), "m"),), "n")))
            self.assertIsNone(fault(clause((clause((use,), "n"), use), "n")))
        self.assertIsNone(fault(("raise", "a", "none")))

    def test_clauses(self):
        bare = ("try", PASS, (), (), PASS)
        two = clause((clause(PASS),))
        self.assertIsNone(fault(two))
        self.assertIsNone(fault(clause((clause((bare,)),))))
        self.assertEqual(fault(clause((two,))), ("clauses", 4))
        self.assertEqual(fault(clause((clause((("loop", (clause(PASS),)),)),))), ("clauses", 5))
        beside = ("try", (two,), ((("a",), None, PASS),), (two,), (two,))
        self.assertIsNone(fault(beside))
        self.assertIsNone(fault(clause((("try", (clause(PASS),), ((("a",), None, PASS),), (), (clause(PASS),)),))))

    def test_first_fault(self):
        self.assertEqual(told(NoFunction, Function, "F", "F", None, block=()), ("name", None))
        self.assertEqual(told(NoFunction, Function, "f", "f", "q", "r", block=()), ("callback", 0))
        self.assertEqual(told(NoFunction, Function, "f", "p", "p", "r", block=()), ("callback", 1))
        self.assertEqual(told(NoFunction, Function, "f", "p", "q", "r", block=()), ("callback", 2))
        self.assertEqual(told(NoFunction, Function, "f", block=()), ("block", None))
        self.assertEqual(fault(("again", "n"), ("break",)), ("bound", 0))
        self.assertEqual(fault(("break",), ("again", "n")), ("break", 0))
        third = clause((clause((("try", PASS, ((("a",), None, (None,)),), (), ()),)),))
        self.assertEqual(fault(third), ("clauses", 4))

    def test_nothing_is_changed(self):
        callbacks = ["p"]
        function = Function.made("f", callbacks, CALL_P)
        callbacks.append("q")
        self.assertEqual(function.callbacks, ("p",))


if __name__ == "__main__":
    unittest.main()
