import random
import unittest

from tests.random_programs import random_acts, random_program
from tests.samples import P1, P3, PASS, any_values, told
from whatleaves.acts import Acts
from whatleaves.classes import Classes
from whatleaves.errors import LeaveError, NoCase, NoClass, NoName, NoProgram
from whatleaves.functions import Function
from whatleaves.programs import Program
from whatleaves.reader import read_function, read_program
from whatleaves.shop import Shop
from whatleaves.tables import can

ONE, THREE = read_program(P1), read_program(P3)
ACTS = Acts(("p", None, "a"), ("p", "a", "b"), ("p", None, "returns"))


class TestChanges(unittest.TestCase):

    def setUp(self):
        self.shop = Shop(program=ONE)

    def test_at_first(self):
        self.assertIs(self.shop.current, ONE)
        self.assertEqual((len(self.shop), self.shop.answer, self.shop.undo()), (0, (), False))

    def test_take(self):
        self.assertIsNone(self.shop.take(program=THREE))
        self.assertEqual((self.shop.current, len(self.shop)), (THREE, 1))
        self.shop.take(THREE)
        self.assertEqual(len(self.shop), 2)

    def test_put(self):
        function = Function("g", block=PASS)
        self.assertIsNone(self.shop.put(function=function))
        self.assertEqual(self.shop.current, ONE.with_function(function))
        self.shop.put(function)
        self.assertEqual((self.shop.current.names, len(self.shop)), (("f", "g"), 2))

    def test_grow(self):
        self.assertIsNone(self.shop.grow(("d", "a"), ("e", "d", "b")))
        self.assertEqual(self.shop.current, ONE.with_classes(("d", "a"), ("e", "d", "b")))
        self.shop.grow()
        self.assertEqual(len(self.shop), 2)

    def test_drop(self):
        self.assertIsNone(self.shop.drop(name="f"))
        self.assertEqual((self.shop.current, len(self.shop)), (Program(ONE.classes), 1))

    def test_undo(self):
        states = [self.shop.current]
        for change in (lambda: self.shop.put(Function("g", block=PASS)), lambda: self.shop.grow(("d", "a")),
                lambda: self.shop.drop("f"), lambda: self.shop.take(THREE)):
            change()
            states.append(self.shop.current)
        for k in range(4, 0, -1):
            self.assertEqual((self.shop.current, len(self.shop)), (states[k], k))
            self.assertIs(self.shop.undo(), True)
        self.assertEqual((self.shop.current, len(self.shop)), (ONE, 0))
        self.assertIs(self.shop.undo(), False)
        self.assertIs(self.shop.undo(), False)
        self.assertEqual(self.shop.current, ONE)

    def test_changes_behind_an_undo(self):
        self.shop.grow(("d", "a"))
        self.shop.undo()
        self.shop.grow(("e", "a"))
        self.assertEqual((self.shop.current.classes.names[-1], len(self.shop)), ("e", 1))
        self.assertIs(self.shop.undo(), True)
        self.assertEqual((self.shop.current, self.shop.undo()), (ONE, False))

    def test_refused(self):
        self.shop.take(THREE)
        for x in any_values():
            if not isinstance(x, Function):
                self.assertEqual(told(NoProgram, self.shop.put, x), ("function", 2))
            if not (isinstance(x, str) and x in ("f", "m")):
                self.assertEqual(told(NoName, self.shop.drop, x), (x,))
            if x != ("a", "error"):
                self.assertIsNotNone(told(NoClass, self.shop.grow, ("d", "a"), x))
        self.assertEqual(told(NoProgram, self.shop.drop, "m"), ("statement", (0, 3)))
        self.assertEqual(told(NoProgram, self.shop.put, Function("m", "p", block=PASS)), ("statement", (1, 3)))
        self.assertEqual(told(NoClass, self.shop.grow, ("a", "error")), ("name", 3))
        self.assertEqual((self.shop.current, len(self.shop)), (THREE, 1))
        self.shop.undo()
        self.assertEqual(told(NoName, self.shop.drop, "g"), ("g",))
        self.assertEqual((self.shop.current, len(self.shop)), (ONE, 0))


class TestWatch(unittest.TestCase):

    def setUp(self):
        self.shop = Shop(ONE)

    def test_answer(self):
        self.assertIsNone(self.shop.watch(ACTS, "f"))
        self.assertEqual(self.shop.answer, ("returns", "c"))
        self.shop.watch(acts=ACTS, function="f", handled="a")
        self.assertEqual(self.shop.answer, ("b",))
        self.shop.watch(ACTS, "f", "q")
        self.assertEqual(self.shop.answer, ())
        self.assertEqual((len(self.shop), self.shop.undo()), (0, False))

    def test_after_changes(self):
        self.shop.watch(ACTS, "f")
        self.shop.put(read_function("def f p\n  call p"))
        self.assertEqual(self.shop.answer, ("returns", "a"))
        self.shop.grow(("d", "a"))
        self.assertEqual(self.shop.answer, ("returns", "a"))
        self.shop.take(THREE)
        self.assertIsNone(self.shop.answer)
        self.shop.undo()
        self.shop.undo()
        self.assertEqual(self.shop.answer, ("returns", "a"))
        self.shop.undo()
        self.assertEqual(self.shop.answer, ("returns", "c"))

    def test_no_case_and_one_again(self):
        self.shop.watch(ACTS, "f", "p", handled="a")
        self.assertEqual(self.shop.answer, ("b",))
        self.shop.drop("f")
        self.assertIsNone(self.shop.answer)
        self.shop.put(Function("f", block=PASS))
        self.assertIsNone(self.shop.answer)
        self.shop.put(Function("f", "q", block=(("call", "q"),)))
        self.assertEqual(self.shop.answer, ("b",))
        self.shop.put(Function("f", "q", "p", block=PASS))
        self.assertIsNone(self.shop.answer)
        self.shop.take(Program(Classes(("b", "error")), Function("f", "p", block=PASS)))
        self.assertIsNone(self.shop.answer)
        self.shop.take(Program(Classes(("a", "error")), Function("f", "p", block=PASS)))
        self.assertEqual(self.shop.answer, ("returns",))

    def test_another_case(self):
        shop = Shop(read_program("def f\n  pass"))
        shop.watch(Acts(), "f")
        self.assertEqual(shop.answer, ("returns",))
        # What f is called with now is its callback, since nothing is given.
        shop.put(Function("f", "p", block=PASS))
        self.assertIsNone(shop.answer)
        shop.undo()
        self.assertEqual(shop.answer, ("returns",))

    def test_a_word_that_becomes_a_function(self):
        shop = Shop(read_program("def f p\n  call p"))
        shop.watch(Acts(("q", None, "error")), "f", "q")
        self.assertEqual(shop.answer, ("error",))
        shop.put(Function("q", block=PASS))
        self.assertEqual(shop.answer, ("returns",))
        shop.put(Function("q", "p", block=PASS))
        self.assertIsNone(shop.answer)
        shop.drop("q")
        self.assertEqual(shop.answer, ("error",))

    def test_refused(self):
        self.shop.watch(ACTS, "f")
        for args, more, reason in ((("g",), {}, "function"), (("g", "f"), {"handled": "x"}, "function"), (("f", "p", "p"), {
                "handled": "x"}, "given"), (("f", "f"), {}, "given"), (("f",), {"handled": "x"}, "handled")):
            self.assertEqual(told(NoCase, self.shop.watch, Acts(), *args, **more), (reason,))
        for x in any_values():
            if not (isinstance(x, str) and x == "f"):
                self.assertEqual(told(NoCase, self.shop.watch, Acts(), x), ("function",))
        self.assertEqual(self.shop.answer, ("returns", "c"))

    def test_undo_does_not_concern_it(self):
        self.shop.grow(("d", "a"))
        self.shop.watch(ACTS, "f")
        self.shop.undo()
        self.assertEqual(self.shop.answer, ("returns", "c"))
        self.assertEqual(len(self.shop), 0)
        self.shop.grow(("d", "a"))
        self.shop.watch(Acts(("p", None, "d")), "f", handled="d")
        self.assertEqual(self.shop.answer, ())
        self.shop.undo()
        self.assertIsNone(self.shop.answer)

    def test_tried(self):
        simple = read_function("def f p\n  call p")
        self.assertEqual(self.shop.tried(simple), ())
        self.shop.watch(ACTS, "f")
        self.assertEqual(self.shop.tried(), ("returns", "c"))
        self.assertEqual(self.shop.tried(simple), ("returns", "a"))
        self.assertEqual(self.shop.tried(simple, ONE.function("f")), ("returns", "c"))
        self.assertEqual(self.shop.tried(Function("g", block=(("raise", "b"),)), read_function("def f p\n  call g")), ("b",))
        self.assertIsNone(self.shop.tried(Function("f", block=PASS)))
        self.assertEqual((self.shop.current, len(self.shop), self.shop.answer), (ONE, 0, ("returns", "c")))

    def test_tried_is_refused(self):
        self.shop.watch(ACTS, "f")
        for x in any_values():
            if not isinstance(x, Function):
                self.assertEqual(told(NoProgram, self.shop.tried, x), ("function", 1))
        wrong = read_function("def g\n  call h")
        self.assertEqual(told(NoProgram, self.shop.tried, Function("h", block=PASS), wrong, wrong), None)
        self.assertEqual(told(NoProgram, self.shop.tried, wrong, Function("h", block=PASS)), ("statement", (1, 0)))
        self.assertEqual((self.shop.current, len(self.shop), self.shop.answer), (ONE, 0, ("returns", "c")))


class TestRandomShops(unittest.TestCase):

    def test_shops(self):
        """A shop held against a list of its states."""
        source = random.Random(10)
        changes = {}
        for _ in range(30):
            states = [random_program(source)]
            shop = Shop(states[0])
            watched = None
            for _ in range(40):
                word = source.choice(("take", "put", "grow", "drop", "undo", "undo", "watch", "tried"))
                before = states[-1]
                try:
                    self.change(source, shop, states, word)
                    if word == "watch":
                        watched = self.watch(source, shop, before)
                except LeaveError:
                    self.assertEqual(shop.current, before)
                    word = word + " refused"
                changes[word] = changes.get(word, 0) + 1
                self.assertEqual((shop.current, len(shop)), (states[-1], len(states) - 1))
                self.assertEqual(shop.answer, self.answer(states[-1], watched))
        self.assertGreater(len([word for word in changes if changes[word] > 4]), 9, changes)

    def change(self, source, shop, states, word):
        function = source.choice(random_program(source).functions)
        now = states[-1]
        if word == "take":
            states.append(random_program(source))
            shop.take(states[-1])
        elif word == "put":
            shop.put(function)
            states.append(now.with_function(function))
        elif word == "grow":
            row = (source.choice("abcdxyz"), source.choice(("a", "c", "error")))
            shop.grow(row)
            states.append(now.with_classes(row))
        elif word == "drop":
            name = source.choice(("f", "g", "h", "two", "none"))
            shop.drop(name)
            states.append(now.without(name))
        elif word == "undo":
            self.assertIs(shop.undo(), len(states) > 1)
            del states[max(1, len(states) - 1):]
        elif word == "tried":
            told_before = shop.answer
            found = shop.tried(function)
            self.assertEqual(shop.answer, told_before)
            shop.put(function)
            self.assertEqual(shop.answer, found)
            self.assertIs(shop.undo(), True)

    def watch(self, source, shop, program):
        acts = random_acts(source, program.classes, 5)
        args = (source.choice(("f", "f", "g", "two", "none")), *source.choice(((), ("p",), ("g",), ("p", "h"), ("x", "f"))))
        handled = source.choice((None, None, "a", "c", "w"))
        shop.watch(acts, *args, handled=handled)
        return acts, program.case(*args, handled=handled)

    def answer(self, program, watched):
        if watched is None:
            return ()
        acts, (name, given, handled) = watched
        try:
            case = program.case(name, *given, handled=handled)
        except NoCase:
            return None
        return can(program, acts, name, *given, handled=handled) if case == (name, given, handled) else None


if __name__ == "__main__":
    unittest.main()
