"""The rules of the program's language that are easy to count: files, imports, sizes, characters and builtins."""

import ast
import builtins
import pathlib
import unittest

PACKAGE = pathlib.Path(__file__).resolve().parent.parent / "cyclebeat"
BUILTINS = {"len", "range", "enumerate", "zip", "min", "max", "sum", "abs", "sorted", "reversed", "int", "str", "bool",
            "list", "tuple", "dict", "set", "isinstance", "ord", "any", "all", "divmod", "super", "ValueError"}
STATEMENTS = (ast.Expr, ast.ImportFrom, ast.FunctionDef, ast.ClassDef, ast.Assign)
BARRED = (ast.AsyncFunctionDef, ast.Global, ast.Import, ast.Div, ast.SetComp, ast.Yield, ast.YieldFrom)


class LanguageTest(unittest.TestCase):
    def setUp(self):
        self.texts = {path: path.read_text("utf-8") for path in sorted(PACKAGE.glob("*.py"))}
        self.trees = {path: ast.parse(text) for path, text in self.texts.items()}

    def nodes(self):
        return [(path, node) for path, tree in self.trees.items() for node in ast.walk(tree)]

    def test_files(self):
        others = [path.name for path in PACKAGE.iterdir() if path not in self.texts and path.name != "__pycache__"]
        self.assertEqual(others, [])
        self.assertIn(PACKAGE / "__init__.py", self.texts)

    def test_sizes(self):
        for path, text in self.texts.items():
            lines = text.split("\n")
            self.assertLessEqual(len(lines), 399, path)
            self.assertLessEqual(max(len(line) for line in lines), 120, path)
        for path, node in self.nodes():
            if isinstance(node, ast.FunctionDef):
                self.assertLessEqual(node.end_lineno - node.lineno + 1, 40, (path, node.name))

    def test_characters(self):
        for path, text in self.texts.items():
            self.assertTrue(all(" " <= character <= "~" or character == "\n" for character in text), path)
        for path, node in self.nodes():
            if isinstance(node, ast.Constant) and isinstance(node.value, str):
                self.assertNotIn("%", node.value, path)

    def test_module_level(self):
        for path, tree in self.trees.items():
            for statement in tree.body:
                self.assertIsInstance(statement, STATEMENTS, path)

    def test_imports(self):
        imported = {path.stem: set() for path in self.texts}
        for path, node in self.nodes():
            if isinstance(node, ast.ImportFrom):
                names = [alias.name for alias in node.names]
                if node.module == "math":
                    self.assertLessEqual(set(names), {"gcd", "lcm"}, path)
                else:
                    package, module = node.module.split(".")
                    self.assertEqual(package, "cyclebeat")
                    imported[path.stem].add(module)
                    self.assertLessEqual(set(names), self.defined(PACKAGE / (module + ".py")), path)
        while imported:
            free = [name for name, others in imported.items() if not others & set(imported)]
            self.assertTrue(free, "files import each other: " + ", ".join(imported))
            for name in free:
                del imported[name]

    def defined(self, path):
        found = {node.name for node in self.trees[path].body if isinstance(node, (ast.FunctionDef, ast.ClassDef))}
        assigned = [node for node in self.trees[path].body if isinstance(node, ast.Assign)]
        return found | {target.id for node in assigned for target in node.targets}

    def test_builtins_and_statements(self):
        for path, node in self.nodes():
            self.assertNotIsInstance(node, BARRED, path)
            if isinstance(node, ast.Name) and hasattr(builtins, node.id):
                self.assertIn(node.id, BUILTINS, path)
                self.assertIsInstance(node.ctx, ast.Load, (path, node.id))
            if isinstance(node, ast.arg):
                self.assertFalse(hasattr(builtins, node.arg), (path, node.arg))
            if isinstance(node, (ast.FunctionDef, ast.ClassDef)):
                self.assertEqual(node.decorator_list, [], (path, node.name))


if __name__ == "__main__":
    unittest.main()
