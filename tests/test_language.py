"""Those rules of the language of the package that are plainly seen in its files."""

import ast
import builtins
import pathlib
import unittest

FOLDER = pathlib.Path(__file__).resolve().parent.parent / "joinside"

FILES = sorted(path for path in FOLDER.iterdir() if path.name != "__pycache__")

# L8, without those of which the package has no need.
BUILTINS = """len range enumerate zip min max sum abs sorted reversed int str bool list tuple dict set isinstance ord repr
any all divmod ValueError NotImplementedError KeyError super""".split()

# L25, the first list.
METHODS = """append clear copy count endswith extend find get index insert isalnum isalpha isdigit islower isspace isupper
items join keys ljust lower lstrip partition pop remove replace reverse rfind rjust rpartition rsplit rstrip setdefault
split splitlines startswith strip update upper values zfill bit_length add discard""".split()

# Statements and expressions outside of L6 and L7, or of which the package has no need.
BARRED = (ast.AsyncFunctionDef, ast.AsyncFor, ast.AsyncWith, ast.Await, ast.Global, ast.Nonlocal, ast.Yield,
          ast.YieldFrom, ast.Import)


def trees():
    return [(path.name, ast.parse(path.read_text(encoding="utf-8"))) for path in FILES]


def nodes(kind):
    return [(name, node) for name, tree in trees() for node in ast.walk(tree) if isinstance(node, kind)]


class Language(unittest.TestCase):
    def test_files(self):
        self.assertIn("__init__.py", [path.name for path in FILES])
        for path in FILES:
            self.assertRegex(path.name, r"^[a-z0-9_]+\.py$")

    def test_signs_and_sizes(self):
        for path in FILES:
            lines = path.read_text(encoding="utf-8").split("\n")
            self.assertLessEqual(len(lines) - 1, 399)
            for at, line in enumerate(lines, 1):
                with self.subTest(file=path.name, line=at):
                    self.assertRegex(line, r"^[ -~]{0,120}$")
                    self.assertEqual(line, line.rstrip())

    def test_functions(self):
        for name, node in nodes(ast.FunctionDef):
            with self.subTest(file=name, function=node.name):
                self.assertLessEqual(node.end_lineno - node.lineno + 1, 40)
                self.assertEqual(node.decorator_list, [])
                self.assertRegex(node.name, r"^(__init__|_?[a-z][a-z0-9_]*)$")

    def test_imports(self):
        for name, node in nodes(ast.ImportFrom):
            with self.subTest(file=name, line=node.lineno):
                self.assertEqual(node.level, 0)
                self.assertTrue(node.module.startswith("joinside."))
                self.assertTrue((FOLDER / (node.module.split(".")[1] + ".py")).is_file())
                self.assertNotIn("*", [alias.name for alias in node.names])

    def test_barred_statements_and_expressions(self):
        self.assertEqual([(name, node.lineno) for name, node in nodes(BARRED)], [])
        self.assertEqual([name for name, _ in nodes((ast.Div, ast.MatMult))], [])
        for name, node in nodes(ast.Constant):
            self.assertNotIsInstance(node.value, (float, complex), name)
            if isinstance(node.value, str):
                self.assertNotIn("%", node.value)

    def test_names_and_builtins(self):
        for name, node in nodes(ast.Name):
            with self.subTest(file=name, line=node.lineno, name=node.id):
                if hasattr(builtins, node.id):
                    self.assertIn(node.id, BUILTINS)
                    self.assertIsInstance(node.ctx, ast.Load)
                self.assertFalse(node.id.startswith("__"))
        for name, node in nodes(ast.arg):
            self.assertFalse(hasattr(builtins, node.arg), (name, node.lineno))

    def test_methods_called_are_own_or_listed(self):
        own = [node.name for _, node in nodes(ast.FunctionDef)]
        for name, node in nodes(ast.Call):
            if isinstance(node.func, ast.Attribute):
                with self.subTest(file=name, line=node.lineno):
                    self.assertIn(node.func.attr, METHODS + own)

    def test_is_only_beside_none_and_truths(self):
        for name, node in nodes(ast.Compare):
            for sign, right in zip(node.ops, node.comparators):
                if isinstance(sign, (ast.Is, ast.IsNot)):
                    self.assertIsInstance(right, ast.Constant, (name, node.lineno))

    def test_own_names_at_module_level_are_bound_once(self):
        for name, tree in trees():
            bound = []
            for node in tree.body:
                if isinstance(node, (ast.FunctionDef, ast.ClassDef)):
                    bound.append(node.name)
                elif isinstance(node, ast.ImportFrom):
                    bound += [alias.asname or alias.name for alias in node.names]
                elif isinstance(node, ast.Assign):
                    bound += [target.id for target in node.targets]
                    ast.literal_eval(node.value)
                else:
                    self.assertIsInstance(node, ast.Expr, (name, node.lineno))
                    self.assertIsInstance(node.value, ast.Constant, (name, node.lineno))
            self.assertEqual(sorted(bound), sorted(set(bound)), name)


if __name__ == "__main__":
    unittest.main()
