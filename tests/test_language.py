"""Those rules of LANGUAGE.md that a look at the text of the package can see."""

import ast
import builtins
import pathlib
import re
import unittest

FOLDER = pathlib.Path(__file__).resolve().parent.parent / "tastehouse"
LET_BUILTINS = set(
    "len range enumerate zip min max sum abs sorted reversed int str bool bytes list tuple dict set frozenset isinstance "
    "ord repr any all divmod Exception ValueError TypeError KeyError IndexError LookupError ZeroDivisionError "
    "ArithmeticError OverflowError RuntimeError NotImplementedError AttributeError StopIteration NotImplemented".split()
)
BARRED_WORDS = re.compile(
    r"\b(type|typing|typing_extensions|enum|Enum|IntEnum|StrEnum|Flag|IntFlag|Generic|Protocol|ABC|ABCMeta|namedtuple|"
    r"NamedTuple|TypedDict|TYPE_CHECKING|abstractmethod)\b|dataclass|overload|contextmanager"
)
LET_METHODS = set(
    "append clear copy count endswith extend find get index insert isalnum isalpha isdigit islower isspace isupper items "
    "join keys ljust lower lstrip partition pop remove replace reverse rfind rjust rpartition rsplit rstrip setdefault "
    "split splitlines startswith strip update upper values zfill bit_length".split()
)
LEVEL = (ast.FunctionDef, ast.ClassDef, ast.ImportFrom, ast.Assign, ast.Expr)


class LanguageTest(unittest.TestCase):
    def setUp(self):
        files = [path for path in FOLDER.rglob("*") if "__pycache__" not in path.parts and path.is_file()]
        self.assertIn(FOLDER / "__init__.py", files)
        self.texts = {path: path.read_bytes().decode("ascii") for path in files}
        self.trees = {path: ast.parse(text) for path, text in self.texts.items()}

    def nodes(self, kind):
        return [(path, node) for path, tree in self.trees.items() for node in ast.walk(tree) if isinstance(node, kind)]

    def test_files(self):
        for path in self.texts:
            self.assertRegex(path.name, r"\A[a-z0-9_]+\.py\Z")

    def test_imports(self):
        self.assertEqual(self.nodes(ast.Import), [])
        for path, node in self.nodes(ast.ImportFrom):
            where = f"{path.name}:{node.lineno}"
            self.assertEqual(node.level, 0, where)
            self.assertRegex(node.module, r"\Atastehouse\.[a-z0-9_]+\Z", where)
            source = self.trees[FOLDER / (node.module.split(".")[1] + ".py")]
            told = [row.name for row in source.body if isinstance(row, (ast.FunctionDef, ast.ClassDef))]
            told += [target.id for row in source.body if isinstance(row, ast.Assign) for target in row.targets]
            for name in node.names:
                self.assertIn(name.name, told, where)

    def test_module_level(self):
        for path, tree in self.trees.items():
            for row in tree.body:
                self.assertIsInstance(row, LEVEL, f"{path.name}:{row.lineno}")

    def test_sizes(self):
        for path, text in self.texts.items():
            rows = text.split("\n")
            self.assertLessEqual(len(rows), 400, path.name)
            for at, row in enumerate(rows, 1):
                self.assertLessEqual(len(row), 120, f"{path.name}:{at}")
        for path, node in self.nodes(ast.FunctionDef):
            self.assertLessEqual(node.end_lineno - node.lineno + 1, 40, f"{path.name}:{node.lineno}")

    def test_signs_and_words(self):
        for path, text in self.texts.items():
            for at, row in enumerate(text.split("\n"), 1):
                self.assertRegex(row, r"\A[ -~]*\Z", f"{path.name}:{at}")
                self.assertIsNone(BARRED_WORDS.search(row), f"{path.name}:{at}")

    def test_names(self):
        for path, node in self.nodes(ast.Name):
            where = f"{path.name}:{node.lineno} {node.id}"
            self.assertFalse(node.id.startswith("_"), where)
            if hasattr(builtins, node.id):
                self.assertIn(node.id, LET_BUILTINS, where)
                self.assertIsInstance(node.ctx, ast.Load, where)
        for path, node in self.nodes(ast.arg):
            self.assertFalse(hasattr(builtins, node.arg), f"{path.name}:{node.lineno} {node.arg}")

    def test_no_imports_in_a_ring(self):
        straight = {path.stem: {row.module.split(".")[1] for row in tree.body if isinstance(row, ast.ImportFrom)}
                    for path, tree in self.trees.items()}
        while straight:
            free = [name for name, others in straight.items() if not others & set(straight)]
            self.assertTrue(free, straight)
            for name in free:
                del straight[name]

    def test_no_local_name_of_an_import_or_a_class(self):
        for path, tree in self.trees.items():
            taken = {name.name for row in tree.body if isinstance(row, ast.ImportFrom) for name in row.names}
            taken |= {row.name for row in tree.body if isinstance(row, ast.ClassDef)}
            for node in ast.walk(tree):
                local = node.arg if isinstance(node, ast.arg) else None
                local = node.id if isinstance(node, ast.Name) and isinstance(node.ctx, ast.Store) else local
                self.assertNotIn(local, taken, f"{path.name}:{getattr(node, 'lineno', 0)}")

    def test_no_method_is_an_attribute(self):
        methods = {row.name for path, node in self.nodes(ast.ClassDef) for row in node.body if isinstance(row, ast.FunctionDef)}
        stored = {node.attr for path, node in self.nodes(ast.Attribute) if isinstance(node.ctx, ast.Store)}
        self.assertEqual(methods & stored, set())
        for kind in (str, int, list, dict, set, bytes):
            self.assertEqual(stored & set(dir(kind)), set())

    def test_methods_called(self):
        own = {row.name for path, node in self.nodes(ast.ClassDef) for row in node.body if isinstance(row, ast.FunctionDef)}
        for path, node in self.nodes(ast.Call):
            if isinstance(node.func, ast.Attribute):
                self.assertIn(node.func.attr, LET_METHODS | own, f"{path.name}:{node.lineno}")

    def test_module_level_values(self):
        for path, tree in self.trees.items():
            functions, bound = set(), set()
            for row in tree.body:
                names = [row.name] if isinstance(row, (ast.FunctionDef, ast.ClassDef)) else []
                names += [name.name for name in row.names] if isinstance(row, ast.ImportFrom) else []
                if isinstance(row, ast.Assign):
                    names += [target.id for target in row.targets]
                    for node in ast.walk(row.value):
                        self.assertIsInstance(node, (ast.Constant, ast.Tuple, ast.List, ast.Dict, ast.Name, ast.Load))
                        self.assertIn(getattr(node, "id", None), functions | {None}, f"{path.name}:{row.lineno}")
                functions |= set(names) if isinstance(row, ast.FunctionDef) else set()
                self.assertEqual(bound & set(names), set(), f"{path.name}:{row.lineno}")
                bound |= set(names)

    def test_is_stands_with_none_and_truths_alone(self):
        for path, node in self.nodes(ast.Compare):
            for sign, right in zip(node.ops, node.comparators):
                if isinstance(sign, (ast.Is, ast.IsNot)):
                    self.assertIn(ast.unparse(right), ("None", "True", "False"), f"{path.name}:{node.lineno}")

    def test_strings(self):
        for path, node in self.nodes(ast.Constant):
            if isinstance(node.value, str):
                self.assertNotIn("%", node.value, f"{path.name}:{node.lineno}")
            self.assertNotIsInstance(node.value, float, f"{path.name}:{node.lineno}")


if __name__ == "__main__":
    unittest.main()
