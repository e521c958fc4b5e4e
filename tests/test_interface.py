"""What the interface lists exists under its name, in its file and its class, with its parameters."""

import importlib
import inspect
import unittest

FUNCTIONS = {
    "statements": {"walk": "(block)"},
    "texts": {"program_text": "(program)", "function_text": "(function)"},
    "reader": {"read_program": "(text)", "read_function": "(text)"},
    "plays": {"play": "(program, record)"},
}
CLASSES = {
    ("classes", "Classes"): {
        "__init__": "(self, *rows)", "plain": "()", "made": "(cls, rows)", "__len__": "(self)",
        "__contains__": "(self, x)",
        "__eq__": "(self, other)", "within": "(self, one, other)", "with_rows": "(self, *rows)",
        "kind": "(self, *names)",
        "kinds": "(self)", "meets": "(self, kind, names)", "kind_of": "(self, name, among)"},
    ("functions", "Function"): {
        "__init__": "(self, name, *callbacks, block)", "made": "(cls, name, callbacks, block)", "__len__": "(self)",
        "__eq__": "(self, other)"},
    ("programs", "Program"): {
        "__init__": "(self, classes, *functions)", "made": "(cls, rows, functions)", "__len__": "(self)",
        "__contains__": "(self, x)",
        "__eq__": "(self, other)", "function": "(self, name)", "with_function": "(self, function)",
        "with_classes": "(self, *rows)",
        "without": "(self, name)", "case": "(self, function, *given, handled=None)"},
    ("acts", "Acts"): {
        "__init__": "(self, *rows)", "made": "(cls, rows)", "__len__": "(self)", "__contains__": "(self, x)",
        "__eq__": "(self, other)",
        "__or__": "(self, other)", "__and__": "(self, other)", "__sub__": "(self, other)", "__xor__": "(self, other)",
        "within": "(self, other)"},
    ("records", "Record"): {
        "__init__": "(self, *rows)", "made": "(cls, rows)", "__len__": "(self)", "__getitem__": "(self, at)",
        "__eq__": "(self, other)"},
    ("plays", "Played"): {"front": "(self, k)"},
}


class TestInterface(unittest.TestCase):

    def test_functions(self):
        for name, functions in FUNCTIONS.items():
            module = importlib.import_module("whatleaves." + name)
            for function, parameters in functions.items():
                found = getattr(module, function)
                self.assertEqual(found.__module__, "whatleaves." + name)
                self.assertEqual(str(inspect.signature(found)), parameters)

    def test_classes(self):
        for (name, word), methods in CLASSES.items():
            found = getattr(importlib.import_module("whatleaves." + name), word)
            self.assertEqual(found.__module__, "whatleaves." + name)
            for method, parameters in methods.items():
                own = vars(found)[method]
                plain = getattr(own, "__func__", own)
                self.assertEqual(str(inspect.signature(plain)), parameters, (word, method))
        self.assertIsInstance(vars(importlib.import_module("whatleaves.classes").Classes)["plain"], staticmethod)

    def test_made_is_a_class_method(self):
        for (name, word), methods in CLASSES.items():
            if "made" in methods:
                found = getattr(importlib.import_module("whatleaves." + name), word)
                self.assertIsInstance(vars(found)["made"], classmethod)


if __name__ == "__main__":
    unittest.main()
