"""The package's files: what the interface lists stands where it lists it, and the bounds of the files."""

import ast
import pathlib
import unittest

FOLDER = pathlib.Path(__file__).resolve().parent.parent / "turnless"

ERRORS = [
    "TurnError", "NoProblem", "NoClause", "TooMany", "NoText", "NoTurn", "NoLetter", "NotThere", "NoStep", "NoLog",
    "NoWay", "NoPart", "NoAnswer", "NoAsk", "Twice", "NoDeed",
]

# Each file with the functions and classes, and the plain values, that the interface lists under it.
INTERFACE = {
    "errors": (ERRORS, []),
    "problems": (["Problem", "is_answer", "answers"], ["MOST"]),
    "problemtexts": (["problem_text", "read_problem"], []),
}

# Where a name may be imported from outside the package, and which names.
LIBRARY = {
    "heapq": ("heappush", "heappop", "heapify", "heapreplace", "heappushpop"),
    "math": ("gcd", "lcm", "isqrt", "comb", "perm", "factorial"),
    "itertools": ("product", "combinations", "permutations", "chain", "accumulate", "pairwise", "islice",
                  "zip_longest"),
    "collections": ("defaultdict", "deque"),
    "__future__": ("annotations",),
}


def files():
    return [path for path in sorted(FOLDER.rglob("*")) if "__pycache__" not in path.parts]


def tree_of(path):
    return ast.parse(path.read_text(encoding="utf-8"))


class Package(unittest.TestCase):
    def test_what_the_interface_lists_is_defined_in_its_file(self):
        for name, (defined, values) in INTERFACE.items():
            body = tree_of(FOLDER / f"{name}.py").body
            found = [node.name for node in body if isinstance(node, (ast.FunctionDef, ast.ClassDef))]
            given = [node.targets[0].id for node in body if isinstance(node, ast.Assign)]
            with self.subTest(name):
                self.assertEqual([word for word in defined if word not in found], [])
                self.assertEqual([word for word in values if word not in given], [])

    def test_the_folder_holds_plain_files_alone(self):
        self.assertTrue((FOLDER / "__init__.py").is_file())
        self.assertEqual([path for path in files() if path.suffix != ".py" or not path.is_file()], [])

    def test_sizes(self):
        for path in files():
            lines = path.read_text(encoding="ascii").splitlines()
            nodes = [node for node in ast.walk(tree_of(path)) if isinstance(node, ast.FunctionDef)]
            with self.subTest(path.name):
                self.assertLess(len(lines), 400)
                self.assertEqual([line for line in lines if len(line) > 120], [])
                self.assertEqual([node.name for node in nodes if node.end_lineno - node.lineno >= 40], [])

    def test_signs(self):
        for path in files():
            with self.subTest(path.name):
                signs = set(path.read_bytes())
                self.assertEqual([sign for sign in signs if sign != 10 and not 32 <= sign <= 126], [])

    def test_imports(self):
        for path in files():
            for node in ast.walk(tree_of(path)):
                with self.subTest(path.name):
                    self.assertNotIsInstance(node, ast.Import)
                if isinstance(node, ast.ImportFrom) and not node.module.startswith("turnless."):
                    names = [alias.name for alias in node.names]
                    with self.subTest(path.name):
                        self.assertEqual([name for name in names if name not in LIBRARY.get(node.module, ())], [])


if __name__ == "__main__":
    unittest.main()
