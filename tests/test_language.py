"""Those rules of LANGUAGE.md that are plain to see, over every file of the package."""

import ast
import pathlib
import re
import unittest

PACKAGE = pathlib.Path(__file__).resolve().parent.parent / "marblefall"
FILES = sorted(PACKAGE.glob("**/*.py"))
BARRED = re.compile(
    r"\b(type|typing|typing_extensions|enum|Enum|IntEnum|StrEnum|Flag|IntFlag|Generic|Protocol|ABC|ABCMeta"
    r"|namedtuple|NamedTuple|TypedDict|TYPE_CHECKING|abstractmethod)\b|dataclass|overload|contextmanager"
)


def nodes(file, *kinds):
    return [node for node in ast.walk(ast.parse(file.read_text())) if isinstance(node, kinds)]


def names(file):
    """All names that the file gives or reads."""
    found = [node.id for node in nodes(file, ast.Name)] + [node.attr for node in nodes(file, ast.Attribute)]
    found += [node.name for node in nodes(file, ast.FunctionDef, ast.ClassDef)]
    return found + [node.arg for node in nodes(file, ast.arg)]


class LanguageTest(unittest.TestCase):
    def test_the_folder_holds_sources_only(self):
        others = [path for path in PACKAGE.rglob("*") if path.is_file() and "__pycache__" not in path.parts]
        self.assertEqual(sorted(others), FILES)
        self.assertIn(PACKAGE / "__init__.py", FILES)

    def test_characters_and_sizes(self):
        for file in FILES:
            text = file.read_text()
            self.assertTrue(all(sign == "\n" or " " <= sign <= "~" for sign in text), file)
            self.assertLessEqual(len(text.splitlines()), 400, file)
            self.assertLessEqual(max(len(line) for line in text.splitlines()), 120, file)
            for node in nodes(file, ast.FunctionDef):
                self.assertLessEqual(node.end_lineno - node.lineno + 1, 40, (file, node.name))

    def test_barred_words(self):
        for file in FILES:
            self.assertIsNone(BARRED.search(file.read_text()), file)

    def test_plain_names(self):
        for file in FILES:
            for name in names(file):
                self.assertTrue(not name.startswith("_") or name.endswith("__"), (file, name))

    def test_imports(self):
        for file in FILES:
            self.assertEqual(nodes(file, ast.Import), [], file)
            for node in nodes(file, ast.ImportFrom):
                own = node.level == 0 and node.module.startswith("marblefall.")
                self.assertTrue(own or node.module == "__future__", (file, node.lineno))

    def test_expressions(self):
        for file in FILES:
            self.assertEqual(nodes(file, ast.Div, ast.Global, ast.AsyncFunctionDef), [], file)
            for node in nodes(file, ast.Constant):
                self.assertNotIsInstance(node.value, float, (file, node.lineno))
                self.assertNotIn("%", str(node.value), (file, node.lineno))
            for node in nodes(file, ast.Compare):
                for sign, right in zip(node.ops, node.comparators):
                    if isinstance(sign, (ast.Is, ast.IsNot)):
                        self.assertIn(getattr(right, "value", 0), (None, True, False), (file, node.lineno))


if __name__ == "__main__":
    unittest.main()
