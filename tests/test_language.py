"""The rules of the language that can be seen at a glance; L1 to L28 are told in ../shared/LANGUAGE.md."""

import ast
import os
import unittest

PACKAGE = os.path.join(os.path.dirname(os.path.dirname(os.path.abspath(__file__))), "calmfabric")
LIBRARY = {
    "heapq": ("heappush", "heappop", "heapify", "heapreplace", "heappushpop"),
    "math": ("gcd", "lcm", "isqrt", "comb", "perm", "factorial"),
    "itertools": ("product", "combinations", "permutations", "chain", "accumulate", "pairwise", "islice", "zip_longest"),
    "collections": ("defaultdict",),
}


def sources():
    """The texts of the files of the package by their names."""
    texts = {}
    for name in sorted(os.listdir(PACKAGE)):
        if name != "__pycache__":
            with open(os.path.join(PACKAGE, name), "rb") as file:
                texts[name] = file.read()
    return texts


class LanguageTest(unittest.TestCase):
    def test_the_folder_has_only_python_files(self):
        for name in sources():
            self.assertTrue(name.endswith(".py") and name[:-3].replace("_", "").isalnum() and name.islower(), name)
        self.assertIn("__init__.py", sources())

    def test_characters_and_sizes(self):
        for name, data in sources().items():
            self.assertTrue(all(byte == 10 or 32 <= byte <= 126 for byte in data), name)
            lines = data.decode("ascii").split("\n")
            self.assertLessEqual(len(lines), 399, name)
            for number, line in enumerate(lines, 1):
                self.assertLessEqual(len(line), 120, (name, number))
                self.assertEqual(line, line.rstrip(), (name, number))

    def test_functions_have_at_most_40_lines(self):
        for name, data in sources().items():
            for node in ast.walk(ast.parse(data)):
                if isinstance(node, ast.FunctionDef):
                    self.assertLessEqual(node.end_lineno - node.lineno + 1, 40, (name, node.name))
                    self.assertIsNotNone(ast.get_docstring(node) or node.name == "__init__" or None, (name, node.name))

    def test_imports(self):
        for name, data in sources().items():
            tree = ast.parse(data)
            for node in ast.walk(tree):
                self.assertNotIsInstance(node, ast.Import, name)
                if isinstance(node, ast.ImportFrom):
                    self.assertIn(node, tree.body, name)
                    self.assertEqual(node.level, 0, name)
                    for alias in node.names:
                        self.assertIsNone(alias.asname, name)
                        if node.module in LIBRARY:
                            self.assertIn(alias.name, LIBRARY[node.module], name)
                        else:
                            self.assertEqual(self.defined_in(node.module, alias.name), 1, (name, alias.name))

    def defined_in(self, module, wanted):
        """How often a file of the package binds a name itself."""
        folder, _, name = module.partition(".")
        self.assertEqual(folder, "calmfabric")
        found = 0
        for node in ast.parse(sources()[name + ".py"]).body:
            if isinstance(node, (ast.FunctionDef, ast.ClassDef)):
                found += node.name == wanted
            elif isinstance(node, ast.Assign):
                found += [target.id for target in node.targets] == [wanted]
        return found

    def test_no_code_at_module_level(self):
        for name, data in sources().items():
            for k, node in enumerate(ast.parse(data).body):
                docstring = k == 0 and isinstance(node, ast.Expr)
                plain = isinstance(node, (ast.ImportFrom, ast.FunctionDef, ast.ClassDef, ast.Assign))
                self.assertTrue(docstring or plain, (name, node.lineno))

    def test_no_floats_and_no_division(self):
        for name, data in sources().items():
            for node in ast.walk(ast.parse(data)):
                self.assertNotIsInstance(node, (ast.Div, ast.Global, ast.AsyncFunctionDef), name)
                self.assertFalse(isinstance(node, ast.Constant) and isinstance(node.value, float), name)


if __name__ == "__main__":
    unittest.main()
