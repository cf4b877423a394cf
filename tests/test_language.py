"""Some of the rules for the code of the package that can be read off its files."""

import ast
import builtins
import unittest
from pathlib import Path

PACKAGE = Path(__file__).resolve().parent.parent / "normalwords"
FILES = sorted(PACKAGE.glob("*.py"))

BUILTINS = set("""len range enumerate zip min max sum abs sorted reversed int str bool list tuple dict
    set isinstance ord repr any all divmod super ValueError NotImplemented""".split())
BARRED = (ast.AsyncFunctionDef, ast.Global, ast.Try, ast.With, ast.Yield, ast.YieldFrom, ast.Await,
          ast.Div, ast.GeneratorExp, ast.Import, ast.NamedExpr, ast.Match)
STARTS = (ast.Expr, ast.ImportFrom, ast.FunctionDef, ast.ClassDef, ast.Assign)


def trees():
    return [(path.name, ast.parse(path.read_text(encoding="utf-8"))) for path in FILES]


def nodes_of(kind):
    return [(name, node) for name, tree in trees() for node in ast.walk(tree) if isinstance(node, kind)]


class Language(unittest.TestCase):
    def test_files(self):
        rest = [path for path in PACKAGE.iterdir() if path not in FILES and path.name != "__pycache__"]
        self.assertEqual(rest, [])
        for path in FILES:
            text = path.read_text(encoding="utf-8")
            with self.subTest(file=path.name):
                self.assertTrue(all(sign == "\n" or " " <= sign <= "~" for sign in text))
                lines = text.splitlines()
                self.assertLessEqual(len(lines), 399)
                self.assertLessEqual(max(len(line) for line in lines), 120)

    def test_functions_are_small(self):
        for name, node in nodes_of(ast.FunctionDef):
            with self.subTest(file=name, function=node.name):
                self.assertLessEqual(node.end_lineno - node.lineno + 1, 40)
                self.assertEqual(node.decorator_list, [])

    def test_making_returns_nothing(self):
        for name, node in nodes_of(ast.FunctionDef):
            if node.name == "__init__":
                found = [part for part in ast.walk(node) if isinstance(part, ast.Return)]
                self.assertEqual(found, [], f"{name}, line {node.lineno}")

    def test_statements_that_are_not_used(self):
        for name, node in nodes_of(BARRED):
            self.fail(f"{name}, line {node.lineno}: {type(node).__name__}")

    def test_imports_name_the_file_that_defines(self):
        for name, node in nodes_of(ast.ImportFrom):
            with self.subTest(file=name, line=node.lineno):
                self.assertEqual(node.level, 0)
                self.assertTrue(node.module.startswith("normalwords."))
                tree = ast.parse((PACKAGE / f"{node.module.split('.')[1]}.py").read_text(encoding="utf-8"))
                made = {part.name for part in tree.body if isinstance(part, (ast.FunctionDef, ast.ClassDef))}
                made |= {part.targets[0].id for part in tree.body if isinstance(part, ast.Assign)}
                for part in node.names:
                    self.assertIsNone(part.asname)
                    self.assertIn(part.name, made)

    def test_module_level(self):
        for name, tree in trees():
            for node in tree.body:
                self.assertIsInstance(node, STARTS, name)

    def test_names_are_free(self):
        for name, tree in trees():
            imports = {part.name for node in tree.body if isinstance(node, ast.ImportFrom) for part in node.names}
            classes = {node.name for node in tree.body if isinstance(node, ast.ClassDef)}
            for node in ast.walk(tree):
                if isinstance(node, ast.Name) and isinstance(node.ctx, ast.Store):
                    bound = node.id
                elif isinstance(node, ast.arg):
                    bound = node.arg
                else:
                    continue
                with self.subTest(file=name, line=node.lineno, name=bound):
                    self.assertNotIn(bound, imports | classes)
                    # A doctest that ran ahead may have left the name _ there.
                    self.assertFalse(hasattr(builtins, bound) and bound != "_")

    def test_builtins(self):
        for name, node in nodes_of(ast.Name):
            if hasattr(builtins, node.id) and node.id != "_":
                self.assertIn(node.id, BUILTINS, f"{name}, line {node.lineno}")

    def test_no_unused_imports(self):
        for name, tree in trees():
            used = {node.id for node in ast.walk(tree) if isinstance(node, ast.Name)}
            for node in tree.body:
                if isinstance(node, ast.ImportFrom):
                    for part in node.names:
                        self.assertIn(part.name, used, name)


if __name__ == "__main__":
    unittest.main()
