"""Checks the package against those rules of the language that can be seen in its syntax tree."""

import ast
import builtins
import pathlib
import re
import unittest

PACKAGE = pathlib.Path(__file__).resolve().parent.parent / "whatleaves"
BUILTINS = set("""
    len range enumerate zip min max sum abs sorted reversed int str bool list tuple dict set isinstance ord repr
    any all divmod super ValueError TypeError staticmethod classmethod property NotImplemented
""".split())
METHODS = set("""
    append clear copy count endswith extend find get index insert isalnum isalpha isdigit islower isspace
    isupper items join keys ljust lower lstrip partition pop remove replace reverse rfind rjust rpartition
    rsplit rstrip setdefault split splitlines startswith strip update upper values zfill bit_length isascii add
    discard
""".split())
DOUBLE = set("""
    __init__ __eq__ __len__ __call__ __iter__ __contains__ __getitem__ __and__ __or__ __sub__ __xor__
""".split())
BARRED = set("""
    register mro elements open input law version_info with_traceback add_note _cold _tuplegetter _outside
    _record _written_out _member_names attrgetter breakpoint compile copyright credits delattr dir eval exec
    exit gc globals help id importlib license locals methodcaller os quit type vars typing enum Enum Flag
    Generic Protocol ABC namedtuple
""".split())
STATEMENTS = (
    ast.Assign, ast.AugAssign, ast.If, ast.While, ast.For, ast.Return, ast.Break, ast.Continue, ast.Pass, ast.Raise,
    ast.Assert, ast.Delete, ast.Try, ast.Expr, ast.FunctionDef, ast.ClassDef, ast.ImportFrom)


def trees():
    return {path.stem: ast.parse(path.read_text()) for path in sorted(PACKAGE.glob("*.py"))}


def name_of(node):
    return node.id if isinstance(node, ast.Name) else None


class TestLanguage(unittest.TestCase):

    def setUp(self):
        self.trees = trees()
        self.nodes = [(name, node) for name, tree in self.trees.items() for node in ast.walk(tree)]

    def each(self, *kinds):
        return [(name, node) for name, node in self.nodes if isinstance(node, kinds)]

    def test_files(self):
        found = [path for path in PACKAGE.iterdir() if path.name != "__pycache__"]
        self.assertTrue(all(re.fullmatch(r"[a-z_]+\.py", path.name) for path in found), found)
        for path in found:
            text = path.read_text()
            rows = text.split("\n")
            self.assertLessEqual(len(rows), 399, path)
            self.assertLessEqual(max(map(len, rows)), 120, path)
            self.assertRegex(text, r"\A[ -~\n]*\Z")
            self.assertNotRegex(text, r"_wall|_WallAttr|\(type\)|Meta|metaclass=|dataclass|overload|contextmanager")

    def test_size_of_functions(self):
        for name, node in self.each(ast.FunctionDef):
            self.assertLessEqual(node.end_lineno - node.lineno + 1, 40, (name, node.name))
            self.assertIsNone(node.returns)
            for decorator in node.decorator_list:
                self.assertIn(name_of(decorator), ("staticmethod", "classmethod", "property"))

    def test_statements(self):
        for name, node in self.each(ast.stmt):
            self.assertIsInstance(node, STATEMENTS, (name, node.lineno))
        for name, tree in self.trees.items():
            for node in tree.body:
                self.assertIsInstance(node, (ast.Assign, ast.Expr, ast.FunctionDef, ast.ClassDef, ast.ImportFrom), name)

    def test_imports(self):
        inner = {}
        for name, node in self.each(ast.ImportFrom):
            self.assertRegex(node.module, r"\Awhatleaves\.[a-z]+\Z")
            source = node.module.split(".")[1]
            inner.setdefault(name, []).append(source)
            defined = [getattr(one, "name", None) for one in self.trees[source].body]
            defined += [name_of(one.targets[0]) for one in self.trees[source].body if isinstance(one, ast.Assign)]
            for alias in node.names:
                self.assertIsNone(alias.asname)
                self.assertIn(alias.name, defined)
                used = [other for file, other in self.each(ast.Name) if file == name and other.id == alias.name]
                self.assertGreater(len(used), 0, (name, alias.name))
        done = []
        while inner:
            free = [name for name in inner if all(source in done or source not in inner for source in inner[name])]
            self.assertGreater(len(free), 0, inner)
            done.extend(free)
            inner = {name: inner[name] for name in inner if name not in free}

    def test_names(self):
        taken = set(dir(builtins))
        for name, tree in self.trees.items():
            top = [alias.name for node in tree.body if isinstance(node, ast.ImportFrom) for alias in node.names]
            top += [node.name for node in tree.body if isinstance(node, ast.ClassDef)]
            bound = [node.arg for node in ast.walk(tree) if isinstance(node, ast.arg)]
            functions = [node for node in ast.walk(tree) if isinstance(node, ast.FunctionDef)]
            bound += [other.id for node in functions for other in ast.walk(node) if isinstance(other,
                ast.Name) and isinstance(other.ctx, ast.Store)]
            self.assertEqual(sorted(set(bound) & set(top)), [], name)
            once = top + [node.name for node in tree.body if isinstance(node, ast.FunctionDef)]
            once += [target.id for node in tree.body if isinstance(node, ast.Assign) for target in node.targets]
            self.assertEqual(len(once), len(set(once)), name)
            self.assertEqual(sorted((set(bound) | set(once)) & taken), [], name)
            attributes = [node for node in ast.walk(tree) if isinstance(node, ast.Attribute)]
            for word in bound + once + [node.attr for node in attributes if not self.is_base_init(node)]:
                self.assertNotIn(word, BARRED)
                self.assertFalse(word.startswith("__"), word)

    def is_base_init(self, node):
        """Whether an attribute is that of super().__init__."""
        return node.attr == "__init__" and ast.unparse(node) == "super().__init__"

    def test_super(self):
        calls = [node for _, node in self.each(ast.Call) if isinstance(node.func, ast.Attribute)]
        called = [id(node.func.value) for node in calls]
        for name, node in self.each(ast.Call):
            if name_of(node.func) == "super":
                self.assertEqual(node.args, [])
                self.assertIn(id(node), called, (name, node.lineno))

    def test_double_underscores(self):
        for name, node in self.each(ast.FunctionDef):
            if node.name.startswith("__"):
                self.assertIn(node.name, DOUBLE)
            if node.name == "__len__":
                self.assertRegex(ast.unparse(node.body[-1]), r"\Areturn len\(.*\)\Z")

    def test_builtins(self):
        own = {node.name for _, node in self.each(ast.FunctionDef, ast.ClassDef)}
        for name, node in self.each(ast.Name):
            if node.id in dir(builtins):
                self.assertIn(node.id, BUILTINS, (name, node.lineno))
        for name, node in self.each(ast.Call):
            if isinstance(node.func, ast.Attribute):
                self.assertIn(node.func.attr, METHODS | own, (name, node.lineno))
            if name_of(node.func) in ("any", "all"):
                self.assertIsInstance(node.args[0], ast.ListComp, (name, node.lineno))
            if name_of(node.func) in BUILTINS and name_of(node.func) != "sorted":
                self.assertEqual(node.keywords, [], (name, node.lineno))

    def test_attributes_are_assigned(self):
        stored = {node.attr for _, node in self.each(ast.Attribute) if isinstance(node.ctx, ast.Store)}
        methods = {node.name for _, held in self.each(ast.ClassDef) for node in held.body if isinstance(node,
            ast.FunctionDef)}
        constants = {name_of(node.targets[0]) for _, held in self.each(ast.ClassDef) for node in held.body if
            isinstance(node, ast.Assign)}
        self.assertEqual(sorted(constants & (stored | methods)), [])
        for name, node in self.each(ast.Attribute):
            self.assertIn(node.attr, stored | methods | METHODS, (name, node.lineno))
        # A name is a method in one class and an attribute in another one only where that is plain.
        self.assertEqual(sorted(stored & methods), [])

    def test_values(self):
        self.assertEqual(self.each(ast.Set, ast.SetComp, ast.GeneratorExp, ast.Lambda, ast.Global, ast.NamedExpr,
            ast.Div), [])
        for name, node in self.each(ast.Constant):
            self.assertNotIsInstance(node.value, (float, complex, bytes))
            if isinstance(node.value, str):
                self.assertNotIn("%", node.value)
        for name, node in self.each(ast.Compare):
            if any(isinstance(one, (ast.Is, ast.IsNot)) for one in node.ops):
                self.assertIsInstance(node.comparators[0], ast.Constant)
        around = {id(arg): name_of(node.func) for _, node in self.each(ast.Call) for arg in node.args}
        for name, node in self.each(ast.Call):
            if name_of(node.func) == "set":
                self.assertIn(around.get(id(node)), ("len", "sorted"), (name, node.lineno))

    def test_errors(self):
        for name, node in self.each(ast.Raise):
            self.assertIsInstance(node.exc, ast.Call)
            self.assertIsInstance(node.exc.func, ast.Name)
        errors = [node.name for node in self.trees["errors"].body if isinstance(node, ast.ClassDef)]
        for name, node in self.each(ast.ExceptHandler):
            self.assertIn(name_of(node.type), errors)


if __name__ == "__main__":
    unittest.main()
