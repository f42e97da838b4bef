"""Those rules of LANGUAGE.md that a look at the text of the package can see."""

import ast
import builtins
import pathlib
import re
import unittest

FOLDER = pathlib.Path(__file__).resolve().parent.parent / "tastehouse"
LET_BUILTINS = set(
    "len range enumerate zip min max sum abs sorted reversed int str bool bytes list tuple dict set frozenset isinstance "
    "ord repr any all divmod Exception ValueError TypeError KeyError IndexError LookupError ZeroDivisionError "
    "ArithmeticError OverflowError RuntimeError NotImplementedError AttributeError StopIteration NotImplemented".split()
)
BARRED_WORDS = re.compile(
    r"\b(type|typing|typing_extensions|enum|Enum|IntEnum|StrEnum|Flag|IntFlag|Generic|Protocol|ABC|ABCMeta|namedtuple|"
    r"NamedTuple|TypedDict|TYPE_CHECKING|abstractmethod)\b|dataclass|overload|contextmanager"
)
LEVEL = (ast.FunctionDef, ast.ClassDef, ast.ImportFrom, ast.Assign, ast.Expr)


class LanguageTest(unittest.TestCase):
    def setUp(self):
        files = [path for path in FOLDER.rglob("*") if "__pycache__" not in path.parts and path.is_file()]
        self.assertIn(FOLDER / "__init__.py", files)
        self.texts = {path: path.read_bytes().decode("ascii") for path in files}
        self.trees = {path: ast.parse(text) for path, text in self.texts.items()}

    def nodes(self, kind):
        return [(path, node) for path, tree in self.trees.items() for node in ast.walk(tree) if isinstance(node, kind)]

    def test_files(self):
        for path in self.texts:
            self.assertRegex(path.name, r"\A[a-z0-9_]+\.py\Z")

    def test_imports(self):
        self.assertEqual(self.nodes(ast.Import), [])
        for path, node in self.nodes(ast.ImportFrom):
            where = f"{path.name}:{node.lineno}"
            self.assertEqual(node.level, 0, where)
            self.assertRegex(node.module, r"\Atastehouse\.[a-z0-9_]+\Z", where)
            source = self.trees[FOLDER / (node.module.split(".")[1] + ".py")]
            told = [row.name for row in source.body if isinstance(row, (ast.FunctionDef, ast.ClassDef))]
            told += [target.id for row in source.body if isinstance(row, ast.Assign) for target in row.targets]
            for name in node.names:
                self.assertIn(name.name, told, where)

    def test_module_level(self):
        for path, tree in self.trees.items():
            for row in tree.body:
                self.assertIsInstance(row, LEVEL, f"{path.name}:{row.lineno}")

    def test_sizes(self):
        for path, text in self.texts.items():
            rows = text.split("\n")
            self.assertLessEqual(len(rows), 400, path.name)
            for at, row in enumerate(rows, 1):
                self.assertLessEqual(len(row), 120, f"{path.name}:{at}")
        for path, node in self.nodes(ast.FunctionDef):
            self.assertLessEqual(node.end_lineno - node.lineno + 1, 40, f"{path.name}:{node.lineno}")

    def test_signs_and_words(self):
        for path, text in self.texts.items():
            for at, row in enumerate(text.split("\n"), 1):
                self.assertRegex(row, r"\A[ -~]*\Z", f"{path.name}:{at}")
                self.assertIsNone(BARRED_WORDS.search(row), f"{path.name}:{at}")

    def test_names(self):
        for path, node in self.nodes(ast.Name):
            where = f"{path.name}:{node.lineno} {node.id}"
            self.assertFalse(node.id.startswith("_"), where)
            if hasattr(builtins, node.id):
                self.assertIn(node.id, LET_BUILTINS, where)
                self.assertIsInstance(node.ctx, ast.Load, where)
        for path, node in self.nodes(ast.arg):
            self.assertFalse(hasattr(builtins, node.arg), f"{path.name}:{node.lineno} {node.arg}")


if __name__ == "__main__":
    unittest.main()
