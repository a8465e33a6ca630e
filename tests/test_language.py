"""The rules of the language that can be seen at a glance; L1 to L28 are told in ../shared/LANGUAGE.md."""

import ast
import builtins
import os
import unittest

PACKAGE = os.path.join(os.path.dirname(os.path.dirname(os.path.abspath(__file__))), "calmfabric")
LIBRARY = {
    "heapq": ("heappush", "heappop", "heapify", "heapreplace", "heappushpop"),
    "math": ("gcd", "lcm", "isqrt", "comb", "perm", "factorial"),
    "itertools": ("product", "combinations", "permutations", "chain", "accumulate", "pairwise", "islice", "zip_longest"),
    "collections": ("defaultdict",),
}

# The files of each part of the document; first those that belong to none.
PARTS = (
    ("__init__", "values", "errors"), ("networks", "tables", "texts"), ("frames", "distances"), ("routings", "known_ranks"),
    ("packets",), ("blocked",), ("cases", "verdicts", "drains"), ("ways", "rounds"), ("worms", "wormplay"),
    ("wormways", "wormtrees", "wormknots"), ("changeovers", "failures"), ("edits", "changes"),
    ("checking", "worm_checking", "checker"), ("wording", "sessions"),
)

BUILTINS = (
    "len range enumerate zip min max sum abs sorted reversed int str bool bytes list tuple dict set frozenset isinstance "
    "ord repr any all divmod pow getattr hasattr setattr Exception ValueError TypeError KeyError IndexError LookupError "
    "ZeroDivisionError ArithmeticError OverflowError RuntimeError NotImplementedError AttributeError StopIteration "
    "NotImplemented iter next super"
).split()
METHODS = (
    "append clear copy count endswith extend find get index insert isalnum isalpha isdigit islower isspace isupper items "
    "join keys ljust lower lstrip partition pop remove replace reverse rfind rjust rpartition rsplit rstrip setdefault split "
    "splitlines startswith strip update upper values zfill bit_length isdecimal sort add discard __init__"
).split()
# Those of the package itself, called off their own object.
OWN_METHODS = ("fabric", "state", "change_to", "take_back")
NOWHERE = ("register", "mro", "elements", "open", "input", "law", "version_info", "with_traceback", "add_note", "exit", "id")


def sources():
    """The texts of the files of the package by their names."""
    texts = {}
    for name in sorted(os.listdir(PACKAGE)):
        if name != "__pycache__":
            with open(os.path.join(PACKAGE, name), "rb") as file:
                texts[name] = file.read()
    return texts


class LanguageTest(unittest.TestCase):
    def test_the_folder_has_only_python_files(self):
        for name in sources():
            self.assertTrue(name.endswith(".py") and name[:-3].replace("_", "").isalnum() and name.islower(), name)
        self.assertIn("__init__.py", sources())

    def test_characters_and_sizes(self):
        for name, data in sources().items():
            self.assertTrue(all(byte == 10 or 32 <= byte <= 126 for byte in data), name)
            lines = data.decode("ascii").split("\n")
            self.assertLessEqual(len(lines), 399, name)
            for number, line in enumerate(lines, 1):
                self.assertLessEqual(len(line), 120, (name, number))
                self.assertEqual(line, line.rstrip(), (name, number))

    def test_functions_have_at_most_40_lines(self):
        for name, data in sources().items():
            for node in ast.walk(ast.parse(data)):
                if isinstance(node, ast.FunctionDef):
                    self.assertLessEqual(node.end_lineno - node.lineno + 1, 40, (name, node.name))
                    self.assertIsNotNone(ast.get_docstring(node) or node.name == "__init__" or None, (name, node.name))

    def test_imports(self):
        for name, data in sources().items():
            tree = ast.parse(data)
            for node in ast.walk(tree):
                self.assertNotIsInstance(node, ast.Import, name)
                if isinstance(node, ast.ImportFrom):
                    self.assertIn(node, tree.body, name)
                    self.assertEqual(node.level, 0, name)
                    for alias in node.names:
                        self.assertIsNone(alias.asname, name)
                        if node.module in LIBRARY:
                            self.assertIn(alias.name, LIBRARY[node.module], name)
                        else:
                            self.assertEqual(self.defined_in(node.module, alias.name), 1, (name, alias.name))

    def defined_in(self, module, wanted):
        """How often a file of the package binds a name itself."""
        folder, _, name = module.partition(".")
        self.assertEqual(folder, "calmfabric")
        found = 0
        for node in ast.parse(sources()[name + ".py"]).body:
            if isinstance(node, (ast.FunctionDef, ast.ClassDef)):
                found += node.name == wanted
            elif isinstance(node, ast.Assign):
                found += [target.id for target in node.targets] == [wanted]
        return found

    def test_no_code_at_module_level(self):
        for name, data in sources().items():
            for k, node in enumerate(ast.parse(data).body):
                docstring = k == 0 and isinstance(node, ast.Expr)
                plain = isinstance(node, (ast.ImportFrom, ast.FunctionDef, ast.ClassDef, ast.Assign))
                self.assertTrue(docstring or plain, (name, node.lineno))

    def test_builtins_and_methods(self):
        for name, data in sources().items():
            tree = ast.parse(data)
            for node in ast.walk(tree):
                if isinstance(node, ast.Name) and isinstance(node.ctx, ast.Load) and hasattr(builtins, node.id):
                    self.assertIn(node.id, BUILTINS, (name, node.lineno))
                if isinstance(node, ast.Call) and isinstance(node.func, ast.Attribute):
                    own = getattr(node.func.value, "id", None) == "self" and node.func.attr in OWN_METHODS
                    self.assertTrue(own or node.func.attr in METHODS, (name, node.lineno))

    def test_names_mean_one_thing(self):
        for name, data in sources().items():
            tree = ast.parse(data)
            taken = [alias.name for node in tree.body if isinstance(node, ast.ImportFrom) for alias in node.names]
            taken += [node.name for node in tree.body if isinstance(node, ast.ClassDef)]
            top = taken + [node.name for node in tree.body if isinstance(node, ast.FunctionDef)]
            top += [target.id for node in tree.body if isinstance(node, ast.Assign) for target in node.targets]
            self.assertEqual(len(top), len(set(top)), name)
            inner = [node.arg for node in ast.walk(tree) if isinstance(node, ast.arg)]
            inner += [node.id for node in ast.walk(tree) if isinstance(node, ast.Name) and isinstance(node.ctx, ast.Store)]
            for told in inner:
                self.assertNotIn(told, taken, name)
            for told in top + inner:
                barred = hasattr(builtins, told) and told != "_" or told in NOWHERE or told.startswith("__")
                self.assertFalse(barred, (name, told))
            for node in ast.walk(tree):
                if isinstance(node, ast.Name) and isinstance(node.ctx, ast.Load):
                    self.assertNotEqual(node.id, "_", (name, node.lineno))

    def test_no_file_imports_from_itself_through_others(self):
        imports = {}
        for name, data in sources().items():
            nodes = [node for node in ast.parse(data).body if isinstance(node, ast.ImportFrom)]
            imports[name] = [node.module.partition(".")[2] + ".py" for node in nodes if node.module not in LIBRARY]
        left = dict(imports)
        while left:
            ends = [name for name in left if not set(left[name]) & set(left)]
            self.assertNotEqual(ends, [], sorted(left))
            for name in ends:
                del left[name]

    def test_the_checker_uses_no_other_part(self):
        own = ("calmfabric.checking", "calmfabric.worm_checking")
        for name, data in sources().items():
            modules = {node.module for node in ast.walk(ast.parse(data)) if isinstance(node, ast.ImportFrom)}
            if name in ("checker.py", "checking.py", "worm_checking.py"):
                self.assertLessEqual(modules, set(own), name)
            else:
                self.assertEqual(modules & set(own), set(), name)

    def test_parts_use_only_the_parts_before_them(self):
        # values.py is what the modules share; the files of the checker are looked at above.
        parts = {name: k for k, names in enumerate(PARTS) for name in names}
        self.assertEqual(sorted(parts), sorted(name[:-3] for name in sources()))
        for name, data in sources().items():
            for node in ast.walk(ast.parse(data)):
                if isinstance(node, ast.ImportFrom) and node.module not in LIBRARY:
                    self.assertLessEqual(parts[node.module.partition(".")[2]], parts[name[:-3]], (name, node.module))

    def test_no_floats_and_no_division(self):
        for name, data in sources().items():
            for node in ast.walk(ast.parse(data)):
                self.assertNotIsInstance(node, (ast.Div, ast.Global, ast.AsyncFunctionDef), name)
                self.assertFalse(isinstance(node, ast.Constant) and isinstance(node.value, float), name)


if __name__ == "__main__":
    unittest.main()
