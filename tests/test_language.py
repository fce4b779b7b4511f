"""The rules of the language that a look at the files can check, for the files of the package."""

import ast
import builtins
import pathlib
import unittest

PACKAGE = pathlib.Path(__file__).resolve().parent.parent / "leastjoined"
LIBRARY = {
    "math": {"gcd", "lcm", "isqrt", "comb", "perm", "factorial"},
    "heapq": {"heappush", "heappop", "heapify", "heapreplace", "heappushpop"},
    "itertools": {
        "product", "combinations", "permutations", "chain", "accumulate", "pairwise", "islice", "zip_longest",
    },
}
BUILTINS = {
    "len", "range", "enumerate", "zip", "min", "max", "sum", "abs", "sorted", "reversed", "int", "str", "bool",
    "list", "tuple", "dict", "set", "isinstance", "ord", "repr", "any", "all", "divmod", "ValueError",
    "NotImplemented", "map",
}
# Words that no variable, function, class or import may be called.
WORDS = {
    "register", "mro", "elements", "law", "version_info", "with_traceback", "add_note", "attrgetter", "gc", "importlib",
    "methodcaller", "os", "sys", "typing", "enum",
}
INTERFACE = {
    "errors.py": {"JoinsError": None},
    "ratios.py": {
        "Ratio": [
            "__init__", "__add__", "__radd__", "__sub__", "__rsub__", "__mul__", "__rmul__", "__neg__", "__abs__",
            "__eq__", "__str__", "is_less", "divided",
        ],
    },
    "codes.py": {
        "check_counts": None, "Code": ["__init__", "__eq__"], "cost": None, "number_of_codes": None, "all_codes": None,
    },
    "joining.py": {"joined": None, "Joining": ["__init__"], "least_cost": None, "is_joining": None},
    "least.py": {
        "levels": None, "judge": None, "Least": ["__init__"], "Better": ["__init__"], "is_least": None,
        "is_better": None, "least_codes": None,
    },
    "borders.py": {
        "number_of_bunches": None, "bunches": None, "number_of_borders": None, "borders": None, "border": None,
        "Border": ["__init__"], "parts": None, "is_border": None,
    },
    "limits.py": {
        "least_within": None, "judge_within": None, "LeastWithin": ["__init__"], "BetterWithin": ["__init__"],
        "is_least_within": None, "is_better_within": None, "prices": None,
    },
    "changes.py": {
        "slack": None, "is_only": None, "nearest": None, "Near": ["__init__"], "is_near": None, "taken": None,
        "until": None,
    },
    "common.py": {
        "common": None, "Common": ["__init__"], "Apart": ["__init__"], "is_common": None, "is_apart": None,
        "plan": None, "Plan": ["__init__"], "is_plan": None,
    },
    "grown.py": {
        "Text": ["__init__", "__eq__", "rules", "tally", "ahead", "sign_of", "part"], "first_lost": None,
    },
    "readers.py": {"follow": None, "spelled": None, "read": None, "Reading": ["__init__"]},
    "tables.py": {"Tables": ["__init__", "widths", "row", "looked", "mean"], "least_tables": None},
    "coded.py": {
        "coded": None, "Coded": ["__init__", "bit", "part", "begin", "sign_at", "right_from", "flipped"],
    },
    "setting.py": {
        "is_setting": None, "setting": None, "Sets": ["__init__"], "Never": ["__init__"], "is_never": None,
    },
    "delays.py": {"delays": None, "Delays": ["__init__", "fewest", "greatest", "apart_by", "mean"]},
    "flips.py": {"flips": None, "Flips": ["__init__", "mean"]},
    "soonest.py": {"soonest": None, "Soonest": ["__init__"]},
}


def called_names(tree):
    return {node.func.id for node in ast.walk(tree) if isinstance(node, ast.Call) and isinstance(node.func, ast.Name)}


def bound_names(tree):
    names = {node.name for node in ast.walk(tree) if isinstance(node, (ast.FunctionDef, ast.ClassDef))}
    names |= {node.id for node in ast.walk(tree) if isinstance(node, ast.Name) and isinstance(node.ctx, ast.Store)}
    names |= {node.arg for node in ast.walk(tree) if isinstance(node, ast.arg)}
    for node in ast.walk(tree):
        if isinstance(node, ast.ImportFrom):
            names |= {alias.name for alias in node.names}
    return names


def local_names(tree):
    """The parameters and local variables of a file, and the functions that are nested."""
    names = {node.arg for node in ast.walk(tree) if isinstance(node, ast.arg)}
    for function in ast.walk(tree):
        if isinstance(function, ast.FunctionDef):
            for node in ast.walk(function):
                if isinstance(node, ast.Name) and isinstance(node.ctx, ast.Store):
                    names.add(node.id)
                elif isinstance(node, ast.FunctionDef) and node is not function:
                    names.add(node.name)
    return names


class LanguageTest(unittest.TestCase):
    def setUp(self):
        self.paths = sorted(PACKAGE.rglob("*.py"))
        self.texts = {path.name: path.read_text(encoding="utf-8") for path in self.paths}
        self.trees = {name: ast.parse(text) for name, text in self.texts.items()}

    def test_only_files_of_python(self):
        for path in PACKAGE.rglob("*"):
            if path.name != "__pycache__" and path.parent.name != "__pycache__":
                self.assertEqual(path.suffix, ".py", path)

    def test_sizes_and_characters(self):
        for name, text in self.texts.items():
            rows = text.split("\n")
            self.assertLess(len(rows), 400, name)
            for row in rows:
                self.assertLessEqual(len(row), 120, (name, row))
                self.assertTrue(all(" " <= letter <= "~" for letter in row), (name, row))

    def test_sizes_of_functions(self):
        for name, tree in self.trees.items():
            for node in ast.walk(tree):
                if isinstance(node, ast.FunctionDef):
                    self.assertLessEqual(node.end_lineno - node.lineno + 1, 40, (name, node.name))
                    decorators = [ast.unparse(part) for part in node.decorator_list]
                    self.assertLessEqual(set(decorators), {"property"}, (name, node.name))

    def test_imports(self):
        for name, tree in self.trees.items():
            for node in ast.walk(tree):
                self.assertNotIsInstance(node, ast.Import, name)
                if isinstance(node, ast.ImportFrom):
                    asked = {alias.name for alias in node.names}
                    if node.module in LIBRARY:
                        self.assertLessEqual(asked, LIBRARY[node.module], name)
                    else:
                        self.assertTrue(node.module.startswith("leastjoined."), (name, node.module))
                        other = self.trees[node.module.split(".")[1] + ".py"]
                        defined = {part.name for part in other.body if hasattr(part, "name")}
                        self.assertLessEqual(asked, defined | bound_names(ast.Module(other.body, [])), name)

    def test_builtins(self):
        for name, tree in self.trees.items():
            known = bound_names(tree) | BUILTINS
            self.assertLessEqual(called_names(tree), known, name)

    def test_names(self):
        for name, tree in self.trees.items():
            classes = {node.name for node in ast.walk(tree) if isinstance(node, ast.ClassDef)}
            asked = set()
            for node in ast.walk(tree):
                if isinstance(node, ast.ImportFrom):
                    asked |= {alias.name for alias in node.names}
            self.assertEqual(local_names(tree) & (classes | asked), set(), name)
            barred = (set(dir(builtins)) | WORDS) - {"_"}
            self.assertEqual((local_names(tree) | classes | asked) & barred, set(), name)
            functions = [node.name for node in tree.body if hasattr(node, "name")]
            self.assertEqual(len(functions), len(set(functions)), name)

    def test_no_ring_of_imports(self):
        asked = {
            name: {node.module.split(".")[1] + ".py" for node in ast.walk(tree)
                   if isinstance(node, ast.ImportFrom) and node.module.startswith("leastjoined.")}
            for name, tree in self.trees.items()
        }
        done = set()
        while len(done) < len(asked):
            more = {name for name, others in asked.items() if others <= done} - done
            self.assertTrue(more, asked)
            done |= more

    def test_barred_parts(self):
        barred = (ast.Global, ast.AsyncFunctionDef, ast.Div, ast.GeneratorExp)
        for name, tree in self.trees.items():
            for node in ast.walk(tree):
                self.assertNotIsInstance(node, barred, (name, getattr(node, "lineno", None)))
                if isinstance(node, ast.Constant):
                    self.assertNotIsInstance(node.value, (float, complex), (name, node.lineno))

    def test_interface_is_defined_where_it_is_listed(self):
        for name, listed in INTERFACE.items():
            bodies = {part.name: part for part in self.trees[name].body if hasattr(part, "name")}
            for word, methods in listed.items():
                self.assertIn(word, bodies, name)
                if methods is not None:
                    own = {part.name for part in bodies[word].body if isinstance(part, ast.FunctionDef)}
                    self.assertLessEqual(set(methods), own, word)


if __name__ == "__main__":
    unittest.main()
