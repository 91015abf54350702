"""What can be seen of the files themselves: sizes, characters, exponents and imports."""

import ast
import pathlib
import unittest

FOLDER = pathlib.Path(__file__).resolve().parent.parent / "backframes"
FILES = sorted(FOLDER.glob("*.py"))


class TestRules(unittest.TestCase):
    def test_the_folder_holds_python_files_alone(self):
        others = [path.name for path in FOLDER.iterdir() if path not in FILES and path.name != "__pycache__"]
        self.assertEqual(others, [])
        self.assertIn(FOLDER / "__init__.py", FILES)

    def test_sizes_and_characters(self):
        for path in FILES:
            text = path.read_bytes()
            self.assertTrue(all(mark == 10 or 32 <= mark <= 126 for mark in text), path)
            lines = text.decode("ascii").split("\n")
            self.assertLess(len(lines), 400, path)
            self.assertLessEqual(max(len(line) for line in lines), 120, path)

    def test_functions_are_small(self):
        for path in FILES:
            for node in ast.walk(ast.parse(path.read_text())):
                if isinstance(node, ast.FunctionDef):
                    self.assertLessEqual(node.end_lineno - node.lineno + 1, 40, (path, node.name))

    def test_exponents_are_written(self):
        for path in FILES:
            for node in ast.walk(ast.parse(path.read_text())):
                if isinstance(node, (ast.BinOp, ast.AugAssign)) and isinstance(node.op, ast.Pow):
                    exponent = node.right if isinstance(node, ast.BinOp) else node.value
                    self.assertIsInstance(exponent, ast.Constant, (path, node.lineno))
                    self.assertIn(exponent.value, range(65), (path, node.lineno))

    def test_imports_are_from_the_package_and_go_one_way(self):
        met = {}
        for path in FILES:
            met[path.stem] = []
            for node in ast.walk(ast.parse(path.read_text())):
                self.assertNotIsInstance(node, ast.Import, path)
                if isinstance(node, ast.ImportFrom) and node.module == "math":
                    self.assertEqual([(name.name, name.asname) for name in node.names], [("gcd", None)])
                elif isinstance(node, ast.ImportFrom):
                    package, _, module = node.module.partition(".")
                    self.assertEqual((package, node.level), ("backframes", 0), path)
                    met[path.stem].append(module)
        while met:
            ready = [name for name in met if not any(other in met for other in met[name])]
            self.assertTrue(ready, f"these import from one another: {sorted(met)}")
            for name in ready:
                del met[name]


if __name__ == "__main__":
    unittest.main()
