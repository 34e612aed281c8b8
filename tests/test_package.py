"""The package's files: what the interface lists stands where it lists it, and the bounds of the files."""

import ast
import builtins
import importlib
import inspect
import pathlib
import unittest

FOLDER = pathlib.Path(__file__).resolve().parent.parent / "turnless"

ERRORS = [
    "TurnError", "NoProblem", "NoClause", "TooMany", "NoText", "NoTurn", "NoLetter", "NotThere", "NoStep", "NoLog",
    "NoWay", "NoPart", "NoAnswer", "NoAsk", "Twice", "NoDeed",
]

# Each file with the functions and classes, and the plain values, that the interface lists under it.
INTERFACE = {
    "errors": (ERRORS, []),
    "problems": (["Problem", "is_answer", "answers"], ["MOST"]),
    "problemtexts": (["problem_text", "read_problem"], []),
    "turns": ([
        "is_turn", "still", "of_letter", "of_clause", "of_part", "of_answer", "then", "back", "order", "rounds", "turn_of",
        "fits",
    ], []),
    "groups": (["Group"], []),
    "finding": (["all_turns", "alike", "shown", "formed"], []),
    "trees": (["shows_parted", "shows_all"], []),
    "breaking": (["lesser", "broken", "left", "kept"], []),
    "judging": (["Judge", "lets_by"], []),
    "solving": (["solved", "checked", "forced"], ["PLAIN", "WAYS"]),
    "kinds": (["least", "kinds", "unmoved", "by_unmoved", "stayers"], []),
    "searching": (["searched", "shows_search"], []),
    "bench": (["Bench", "bench_of"], []),
    "logtexts": (["log_text", "read_log"], []),
    "desk": (["answers_of"], []),
}

# By which names, and in which order, each takes its arguments.
ARGUMENTS = {
    "problems": {"is_answer": "(problem, thing)", "answers": "(problem, *, most=12)"},
    "problemtexts": {"problem_text": "(problem)", "read_problem": "(text)"},
    "turns": {
        "is_turn": "(thing, many)", "still": "(many)", "of_letter": "(turn, letter)", "of_clause": "(turn, clause)",
        "of_part": "(turn, part)", "of_answer": "(turn, answer)", "then": "(one, other)", "back": "(turn)",
        "order": "(turn)", "rounds": "(turn)", "turn_of": "(many, told)", "fits": "(problem, thing)",
    },
    "finding": {"all_turns": "(problem)", "alike": "(one, other)", "shown": "(problem)", "formed": "(problem)"},
    "trees": {"shows_parted": "(one, other, tree)", "shows_all": "(problem, group, paper)"},
    "breaking": {
        "lesser": "(turn, first, *, order=None)", "broken": "(problem, turns, *, order=None)",
        "left": "(problem, turns, *, order=None)", "kept": "(problem, turns, *, order=None)",
    },
    "judging": {"lets_by": "(problem, log)"},
    "solving": {
        "solved": "(problem, *, way='plain', group=None)", "checked": "(problem, told)", "forced": "(problem, part)",
    },
    "kinds": {
        "least": "(group, answer)", "kinds": "(problem, group)", "unmoved": "(problem, turn)",
        "by_unmoved": "(problem, group, *, most=1000)", "stayers": "(group, answer)",
    },
    "searching": {"searched": "(problem, group, *, ask=None)", "shows_search": "(problem, group, told)"},
    "bench": {"bench_of": "(many, log)"},
    "logtexts": {"log_text": "(log)", "read_log": "(text)"},
    "desk": {"answers_of": "(text)"},
}

# The same of each class, whose methods stand in its own body.
METHODS = {
    ("problems", "Problem"): {"__init__": "(self, many, clauses=())", "__eq__": "(self, other)"},
    ("groups", "Group"): {
        "__init__": "(self, many, makers=(), *, base=())", "__eq__": "(self, other)", "truths": "(self)", "makers": "(self)",
        "base": "(self)", "floors": "(self)", "size": "(self)", "has": "(self, thing)", "factors": "(self, turn)",
        "orbit": "(self, letter)", "orbits": "(self)", "leaving": "(self, letters)", "turns": "(self, *, most=1000)",
    },
    ("judging", "Judge"): {
        "__init__": "(self, problem)", "read": "(self, step)", "read_all": "(self, log)", "standing": "(self)",
        "steps": "(self)", "truths": "(self)", "ended": "(self)", "tries": "(self)",
    },
    ("bench", "Bench"): {
        "__init__": "(self, many, clauses=())", "put": "(self, clause)", "drop": "(self, clause)", "hold": "(self, letter)",
        "back": "(self)", "again": "(self)", "each": "(self, deeds, *, just=False)", "problem": "(self)", "group": "(self)",
        "kinds": "(self)", "log": "(self)", "tries": "(self)", "twin": "(self)",
    },
}

# Where a name may be imported from outside the package, and which names.
LIBRARY = {
    "heapq": ("heappush", "heappop", "heapify", "heapreplace", "heappushpop"),
    "math": ("gcd", "lcm", "isqrt", "comb", "perm", "factorial"),
    "itertools": ("product", "combinations", "permutations", "chain", "accumulate", "pairwise", "islice",
                  "zip_longest"),
    "collections": ("defaultdict", "deque"),
    "__future__": ("annotations",),
}


def files():
    return [path for path in sorted(FOLDER.rglob("*")) if "__pycache__" not in path.parts]


def tree_of(path):
    return ast.parse(path.read_text(encoding="utf-8"))


class Package(unittest.TestCase):
    def test_what_the_interface_lists_is_defined_in_its_file(self):
        for name, (defined, values) in INTERFACE.items():
            body = tree_of(FOLDER / f"{name}.py").body
            found = [node.name for node in body if isinstance(node, (ast.FunctionDef, ast.ClassDef))]
            given = [node.targets[0].id for node in body if isinstance(node, ast.Assign)]
            with self.subTest(name):
                self.assertEqual([word for word in defined if word not in found], [])
                self.assertEqual([word for word in values if word not in given], [])

    def test_arguments(self):
        for name, wanted in ARGUMENTS.items():
            module = importlib.import_module(f"turnless.{name}")
            for word, told in wanted.items():
                with self.subTest(name, word=word):
                    self.assertEqual(str(inspect.signature(getattr(module, word))), told)

    def test_methods_stand_in_their_class(self):
        for (name, kind), wanted in METHODS.items():
            own = vars(getattr(importlib.import_module(f"turnless.{name}"), kind))
            for word, told in wanted.items():
                with self.subTest(kind, word=word):
                    self.assertEqual(str(inspect.signature(own[word])), told)

    def test_the_folder_holds_plain_files_alone(self):
        self.assertTrue((FOLDER / "__init__.py").is_file())
        self.assertEqual([path for path in files() if path.suffix != ".py" or not path.is_file()], [])

    def test_sizes(self):
        for path in files():
            lines = path.read_text(encoding="ascii").splitlines()
            nodes = [node for node in ast.walk(tree_of(path)) if isinstance(node, ast.FunctionDef)]
            with self.subTest(path.name):
                self.assertLess(len(lines), 400)
                self.assertEqual([line for line in lines if len(line) > 120], [])
                self.assertEqual([node.name for node in nodes if node.end_lineno - node.lineno >= 40], [])

    def test_signs(self):
        for path in files():
            with self.subTest(path.name):
                signs = set(path.read_bytes())
                self.assertEqual([sign for sign in signs if sign != 10 and not 32 <= sign <= 126], [])

    def test_imports(self):
        for path in files():
            for node in ast.walk(tree_of(path)):
                with self.subTest(path.name):
                    self.assertNotIsInstance(node, ast.Import)
                if isinstance(node, ast.ImportFrom) and not node.module.startswith("turnless."):
                    names = [alias.name for alias in node.names]
                    with self.subTest(path.name):
                        self.assertEqual([name for name in names if name not in LIBRARY.get(node.module, ())], [])


# What may stand in the package, of all that Python has.
BUILTINS = {
    "len", "range", "enumerate", "zip", "min", "max", "sum", "abs", "sorted", "reversed", "int", "str", "bool", "list", "tuple",
    "dict", "set", "isinstance", "ord", "repr", "any", "all", "divmod", "pow", "iter", "next", "map", "super", "type",
    "ValueError", "KeyError", "IndexError", "LookupError", "TypeError", "StopIteration", "NotImplemented",
}
METHODS_OF_VALUES = {
    "append", "clear", "copy", "count", "endswith", "extend", "find", "get", "index", "insert", "isalnum", "isalpha", "isdigit",
    "items", "join", "keys", "ljust", "lower", "lstrip", "partition", "pop", "remove", "replace", "reverse", "rfind", "rjust",
    "setdefault", "split", "splitlines", "startswith", "strip", "update", "upper", "values", "zfill", "removeprefix",
    "removesuffix",
}
NO_NODES = (ast.AsyncFunctionDef, ast.AsyncFor, ast.AsyncWith, ast.Await, ast.Import)


class Language(unittest.TestCase):
    """A part of the rules of the language, that a glance at the nodes of a file can tell."""

    def setUp(self):
        self.trees = {path.name: tree_of(path) for path in files()}
        nodes = [node for tree in self.trees.values() for node in ast.walk(tree)]
        self.own = {node.name for node in nodes if isinstance(node, (ast.FunctionDef, ast.ClassDef))}

    def nodes(self, *kinds):
        return [(name, node) for name, tree in self.trees.items() for node in ast.walk(tree) if isinstance(node, kinds)]

    def test_no_other_statements_and_expressions(self):
        self.assertEqual([(name, node.lineno) for name, node in self.nodes(*NO_NODES)], [])
        floats = [name for name, node in self.nodes(ast.Constant) if isinstance(node.value, (float, complex))]
        self.assertEqual(floats, [])
        self.assertEqual([name for name, node in self.nodes(ast.BinOp) if isinstance(node.op, (ast.Div, ast.MatMult))], [])

    def test_builtins(self):
        for name, node in self.nodes(ast.Name):
            if node.id in dir(builtins):
                self.assertIn(node.id, BUILTINS, (name, node.lineno))
                self.assertIsInstance(node.ctx, ast.Load, (name, node.lineno))

    def test_methods(self):
        for name, node in self.nodes(ast.Call):
            if isinstance(node.func, ast.Attribute) and not node.func.attr.startswith("__"):
                self.assertIn(node.func.attr, METHODS_OF_VALUES | self.own, (name, node.lineno))

    def test_is_with_constants_alone(self):
        for name, node in self.nodes(ast.Compare):
            for sign, right in zip(node.ops, node.comparators):
                if isinstance(sign, (ast.Is, ast.IsNot)):
                    self.assertIsInstance(right, ast.Constant, (name, node.lineno))

    def test_no_name_of_an_import_or_a_class_means_anything_else(self):
        for name, tree in self.trees.items():
            taken = {alias.name for node in ast.walk(tree) if isinstance(node, ast.ImportFrom) for alias in node.names}
            taken |= {node.name for node in ast.walk(tree) if isinstance(node, ast.ClassDef)}
            given = {node.id for node in ast.walk(tree) if isinstance(node, ast.Name) and isinstance(node.ctx, ast.Store)}
            given |= {node.arg for node in ast.walk(tree) if isinstance(node, ast.arg)}
            self.assertEqual(taken & given, set(), name)

    def test_no_generator_expressions(self):
        # Where a class has __eq__, as here, any, all, sorted and the like take a list.
        self.assertEqual([(name, node.lineno) for name, node in self.nodes(ast.GeneratorExp, ast.Yield, ast.YieldFrom)], [])
        sorts = [(name, node.lineno) for name, node in self.nodes(ast.Attribute) if node.attr == "sort"]
        self.assertEqual(sorts, [])

    def test_no_files_import_from_each_other(self):
        wanted = {name: {f"{node.module.split('.')[1]}.py" for node in ast.walk(tree)
                         if isinstance(node, ast.ImportFrom) and node.module.startswith("turnless.")}
                  for name, tree in self.trees.items()}
        while wanted:
            # Those that import from none that is left go; where there are none such, files import in a round.
            free = [name for name in wanted if not wanted[name] & set(wanted)]
            self.assertNotEqual(free, [], sorted(wanted))
            for name in free:
                del wanted[name]

    def test_no_name_is_a_method_and_an_attribute_of_a_class(self):
        for name, kind in self.nodes(ast.ClassDef):
            methods = {node.name for node in kind.body if isinstance(node, ast.FunctionDef)}
            given = {node.attr for node in ast.walk(kind) if isinstance(node, ast.Attribute) and isinstance(node.ctx, ast.Store)}
            self.assertEqual(methods & given, set(), (name, kind.name))


if __name__ == "__main__":
    unittest.main()
