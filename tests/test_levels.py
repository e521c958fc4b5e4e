import unittest

from tests.samples import any_values
from whatleaves.acts import Acts
from whatleaves.classes import Classes
from whatleaves.levels import ByClass, Level

CLASSES = Classes(("a", "error"), ("aa", "a"), ("b", "error"))
ACTS = Acts(("p", None, "b"), ("p", None, "returns"), ("p", None, "a"), ("p", "a", "aa"), ("q", "a", "b"),
    ("q", None, "x"), ("q", "x", "b"), ("q", "b", "returns"))


class TestLevels(unittest.TestCase):

    def setUp(self):
        self.levels = (Level(CLASSES), ByClass(CLASSES, ACTS))

    def test_attributes(self):
        for level in self.levels:
            self.assertIs(level.classes, CLASSES)
            self.assertEqual(level.KIND, "class")
        self.assertEqual((Level.KIND, ByClass.KIND), ("class", "class"))
        self.assertTrue(issubclass(ByClass, Level))
        self.assertIs(self.levels[1].acts, ACTS)
        self.assertIs(ByClass(classes=CLASSES, acts=ACTS).acts, ACTS)
        self.assertIs(Level(classes=CLASSES).classes, CLASSES)

    def test_view(self):
        for level in self.levels:
            for name in CLASSES.names:
                self.assertEqual(level.view(name), name)
                self.assertEqual(level.view(name, "b"), name)
                self.assertEqual(level.view(name=name, cause="b"), name)
                self.assertEqual(level.name_of(view=name), name)

    def test_taken(self):
        for level in self.levels:
            self.assertTrue(level.taken("aa", ("b", "a")))
            self.assertTrue(level.taken("aa", ["error"]))
            self.assertTrue(level.taken(view="b", names=("b",)))
            self.assertFalse(level.taken("a", ("aa", "b", "vacant")))
            self.assertFalse(level.taken("a", ()))
            self.assertFalse(level.taken("error", []))

    def test_does(self):
        level, by_class = self.levels
        for callback in ("p", "q", "x"):
            for handled in (None,) + CLASSES.names:
                self.assertEqual(level.does(callback, handled), ())
        found = {(p, j): by_class.does(p, j) for p in ("p", "q", "x") for j in (None,) + CLASSES.names}
        self.assertEqual({key: done for key, done in found.items() if done != ()}, {
            ("p", None): ("returns", "a", "b"), ("p", "a"): ("aa",), ("q", "a"): ("b",), ("q", "b"): ("returns",)})
        self.assertEqual(by_class.does(callback="p", handled="a"), ("aa",))
        self.assertEqual(ByClass(CLASSES, Acts()).does("p", None), ())

    def test_acts_over_no_classes_are_ignored(self):
        level = ByClass(Classes(), Acts(("p", None, "a"), ("p", "a", "error"), ("p", "vacant", "error")))
        self.assertEqual([level.does("p", j) for j in (None, "a", "vacant", "error")], [(), (), ("error",), ()])
        self.assertEqual(len(level.acts), 3)

    def test_order_of_outcomes(self):
        rows = [("p", None, outcome) for outcome in ("vacant", "returns", "b", "aa", "error", "a")]
        self.assertEqual(ByClass(CLASSES, Acts(*rows)).does("p", None), ("returns", "a", "aa", "b", "error", "vacant"))

    def test_any_values_are_no_callback_that_acts(self):
        words = [x for x in any_values() if isinstance(x, str) and x != "p"]
        self.assertEqual([x for x in words if self.levels[1].does(x, None) != ()], [])


if __name__ == "__main__":
    unittest.main()
