"""What the interface lists exists under its name, in its file and its class, with its parameters."""

import importlib
import inspect
import unittest

FUNCTIONS = {
    "statements": {"walk": "(block)"},
    "texts": {"program_text": "(program)", "function_text": "(function)"},
    "reader": {"read_program": "(text)", "read_function": "(text)"},
    "plays": {"play": "(program, record)"},
    "looks": {"look": "(program, level, case, table)"},
    "tables": {
        "closed": "(program, level, table)", "table_of": "(program, level, case)", "outcomes": "(program, level, case)",
        "can": "(program, acts, function, *given, handled=None)"},
    "paths": {"record_of": "(program, level, case, outcome)"},
    "lists": {
        "list_look": "(program, acts, case, lists)", "covered": "(program, acts, lists)",
        "lists_of": "(program, acts, case)", "demands": "(program, acts, case, outcome)"},
    "evidence": {
        "evidence": "(program, acts, case, outcome)",
        "holds_list": "(program, acts, case, outcome, records, lists)"},
    "bars": {
        "bars": "(program, acts, case, outcome)", "holds_bar": "(program, acts, case, outcome, bar, table)"},
    "callbacks": {"acts_of": "(program, functions)", "told": "(program, name, callback, acts)"},
    "alike": {"parted": "(one, other, acts)"},
    "later": {"leaving": "(program, case)"},
    "clients": {"client": "(program, case, kind)", "holds_client": "(program, case, kind, client)"},
    "trails": {"leaves": "(program, case, trail)", "trails": "(program, case, most)"},
    "lengths": {
        "length_look": "(program, case, table)", "length_closed": "(program, table)", "lengths_of": "(program, case)",
        "longest": "(program, case)"},
    "growth": {
        "grown": "(record, inner, outer)", "grows": "(program, record, inner, outer)", "growth": "(program, case)"},
    "wraps": {"wrapped": "(program, names, allowed, made)"},
    "closing": {"closing": "(program, doors, allowed, made, places)"},
    "idle": {"idle": "(program)"},
}
CLASSES = {
    ("classes", "Classes"): {
        "__init__": "(self, *rows)", "plain": "()", "made": "(cls, rows)", "__len__": "(self)",
        "__contains__": "(self, x)",
        "__eq__": "(self, other)", "within": "(self, one, other)", "with_rows": "(self, *rows)",
        "kind": "(self, *names)",
        "kinds": "(self)", "meets": "(self, kind, names)", "kind_of": "(self, name, among)"},
    ("functions", "Function"): {
        "__init__": "(self, name, *callbacks, block)", "made": "(cls, name, callbacks, block)", "__len__": "(self)",
        "__eq__": "(self, other)"},
    ("programs", "Program"): {
        "__init__": "(self, classes, *functions)", "made": "(cls, rows, functions)", "__len__": "(self)",
        "__contains__": "(self, x)",
        "__eq__": "(self, other)", "function": "(self, name)", "with_function": "(self, function)",
        "with_classes": "(self, *rows)",
        "without": "(self, name)", "case": "(self, function, *given, handled=None)"},
    ("acts", "Acts"): {
        "__init__": "(self, *rows)", "made": "(cls, rows)", "__len__": "(self)", "__contains__": "(self, x)",
        "__eq__": "(self, other)",
        "__or__": "(self, other)", "__and__": "(self, other)", "__sub__": "(self, other)", "__xor__": "(self, other)",
        "within": "(self, other)"},
    ("records", "Record"): {
        "__init__": "(self, *rows)", "made": "(cls, rows)", "__len__": "(self)", "__getitem__": "(self, at)",
        "__eq__": "(self, other)"},
    ("plays", "Played"): {"front": "(self, k)"},
    ("levels", "Level"): {
        "__init__": "(self, classes)", "view": "(self, name, cause=None)", "taken": "(self, view, names)",
        "does": "(self, callback, handled)", "name_of": "(self, view)"},
    ("levels", "ByClass"): {
        "__init__": "(self, classes, acts)", "view": "(self, name, cause=None)", "taken": "(self, view, names)",
        "does": "(self, callback, handled)", "name_of": "(self, view)"},
    ("looks", "Look"): {},
    ("later", "ByKind"): {
        "__init__": "(self, classes)", "view": "(self, name, cause=None)", "taken": "(self, view, names)",
        "does": "(self, callback, handled)", "name_of": "(self, view)"},
    ("clients", "Client"): {"__init__": "(self, rows, record)"},
    ("trails", "ByTrail"): {
        "__init__": "(self, classes, trail)", "view": "(self, name, cause=None)", "taken": "(self, view, names)",
        "does": "(self, callback, handled)", "name_of": "(self, view)"},
    ("trails", "ByWord"): {
        "__init__": "(self, classes, most)", "view": "(self, name, cause=None)", "taken": "(self, view, names)",
        "does": "(self, callback, handled)", "name_of": "(self, view)"},
    ("shop", "Shop"): {
        "__init__": "(self, program)", "__len__": "(self)", "take": "(self, program)", "put": "(self, function)",
        "grow": "(self, *rows)", "drop": "(self, name)", "undo": "(self)",
        "watch": "(self, acts, function, *given, handled=None)", "tried": "(self, *functions)"},
    ("desk", "Desk"): {"__init__": "(self)", "say": "(self, row)"},
    ("demands", "Demands"): {
        "__init__": "(self, *sets)", "always": "()", "never": "()", "made": "(cls, sets)", "__call__": "(self, acts)",
        "__len__": "(self)", "__getitem__": "(self, at)", "__eq__": "(self, other)", "__or__": "(self, other)",
        "__and__": "(self, other)", "dual": "(self)", "filled": "(self, callback, acts)", "renamed": "(self, words)"},
}


class TestInterface(unittest.TestCase):

    def test_functions(self):
        for name, functions in FUNCTIONS.items():
            module = importlib.import_module("whatleaves." + name)
            for function, parameters in functions.items():
                found = getattr(module, function)
                self.assertEqual(found.__module__, "whatleaves." + name)
                self.assertEqual(str(inspect.signature(found)), parameters)

    def test_classes(self):
        for (name, word), methods in CLASSES.items():
            found = getattr(importlib.import_module("whatleaves." + name), word)
            self.assertEqual(found.__module__, "whatleaves." + name)
            for method, parameters in methods.items():
                own = vars(found)[method]
                plain = getattr(own, "__func__", own)
                self.assertEqual(str(inspect.signature(plain)), parameters, (word, method))
        for name, word, method in (("classes", "Classes", "plain"), ("demands", "Demands", "always"), ("demands",
            "Demands", "never")):
            found = getattr(importlib.import_module("whatleaves." + name), word)
            self.assertIsInstance(vars(found)[method], staticmethod)

    def test_properties(self):
        shop = importlib.import_module("whatleaves.shop").Shop
        for name in ("current", "answer"):
            self.assertIsInstance(vars(shop)[name], property)

    def test_trails_is_a_generator(self):
        self.assertTrue(inspect.isgeneratorfunction(importlib.import_module("whatleaves.trails").trails))
        self.assertTrue(inspect.isgeneratorfunction(importlib.import_module("whatleaves.statements").walk))

    def test_kinds_of_levels(self):
        kinds = {("levels", "Level"): "class", ("levels", "ByClass"): "class", ("later", "ByKind"): "kind", ("trails",
            "ByTrail"): "trail", ("trails", "ByWord"): "word"}
        for (name, word), kind in kinds.items():
            self.assertEqual(getattr(importlib.import_module("whatleaves." + name), word).KIND, kind)

    def test_made_is_a_class_method(self):
        for (name, word), methods in CLASSES.items():
            if "made" in methods:
                found = getattr(importlib.import_module("whatleaves." + name), word)
                self.assertIsInstance(vars(found)["made"], classmethod)


if __name__ == "__main__":
    unittest.main()
