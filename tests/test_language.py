"""Those rules of LANGUAGE.md that are plain to see, over every file of the package."""

import ast
import builtins
import pathlib
import re
import unittest

PACKAGE = pathlib.Path(__file__).resolve().parent.parent / "marblefall"
FILES = sorted(PACKAGE.glob("**/*.py"))
BARRED = re.compile(
    r"\b(type|typing|typing_extensions|enum|Enum|IntEnum|StrEnum|Flag|IntFlag|Generic|Protocol|ABC|ABCMeta"
    r"|namedtuple|NamedTuple|TypedDict|TYPE_CHECKING|abstractmethod)\b|dataclass|overload|contextmanager"
)

# L8 without chr (L27), and the names of L5.
BUILTINS = set(
    "len range enumerate zip min max sum abs sorted reversed int str bool bytes list tuple dict set"
    " frozenset isinstance ord repr any all divmod iter next super property staticmethod classmethod"
    " Exception ValueError TypeError KeyError IndexError LookupError ZeroDivisionError ArithmeticError"
    " OverflowError RuntimeError NotImplementedError AttributeError StopIteration NotImplemented".split()
)
# L25, the first list.
METHODS = set(
    "append clear copy count endswith extend find get index insert isalnum isalpha isdigit islower"
    " isspace isupper items join keys ljust lower lstrip partition pop remove replace reverse rfind rjust"
    " rpartition rsplit rstrip setdefault split splitlines startswith strip update upper values zfill"
    " bit_length __init__".split()
)


def nodes(file, *kinds):
    return [node for node in ast.walk(ast.parse(file.read_text())) if isinstance(node, kinds)]


def names(file):
    """All names that the file gives or reads."""
    found = [node.id for node in nodes(file, ast.Name)] + [node.attr for node in nodes(file, ast.Attribute)]
    found += [node.name for node in nodes(file, ast.FunctionDef, ast.ClassDef)]
    return found + [node.arg for node in nodes(file, ast.arg)]


class LanguageTest(unittest.TestCase):
    def test_the_folder_holds_sources_only(self):
        others = [path for path in PACKAGE.rglob("*") if path.is_file() and "__pycache__" not in path.parts]
        self.assertEqual(sorted(others), FILES)
        self.assertIn(PACKAGE / "__init__.py", FILES)

    def test_characters_and_sizes(self):
        for file in FILES:
            text = file.read_text()
            self.assertTrue(all(sign == "\n" or " " <= sign <= "~" for sign in text), file)
            self.assertLessEqual(len(text.splitlines()), 400, file)
            self.assertLessEqual(max(len(line) for line in text.splitlines()), 120, file)
            for node in nodes(file, ast.FunctionDef):
                self.assertLessEqual(node.end_lineno - node.lineno + 1, 40, (file, node.name))

    def test_barred_words(self):
        for file in FILES:
            self.assertIsNone(BARRED.search(file.read_text()), file)

    def test_plain_names(self):
        for file in FILES:
            for name in names(file):
                self.assertTrue(not name.startswith("_") or name.endswith("__"), (file, name))

    def test_imports(self):
        for file in FILES:
            self.assertEqual(nodes(file, ast.Import), [], file)
            for node in nodes(file, ast.ImportFrom):
                own = node.level == 0 and node.module.startswith("marblefall.")
                self.assertTrue(own or node.module == "__future__", (file, node.lineno))

    def test_no_two_files_import_from_each_other(self):
        reads = {
            "marblefall." + file.stem: {node.module for node in nodes(file, ast.ImportFrom)} - {"__future__"}
            for file in FILES
        }
        while reads:
            free = [name for name, others in reads.items() if not others & set(reads)]
            self.assertTrue(free, reads)
            reads = {name: others for name, others in reads.items() if name not in free}

    def test_a_name_is_imported_from_the_file_that_defines_it_and_used(self):
        for file in FILES:
            used = [node.id for node in nodes(file, ast.Name)]
            for node in nodes(file, ast.ImportFrom):
                tree = ast.parse((PACKAGE.parent / (node.module.replace(".", "/") + ".py")).read_text())
                defined = [one.name for one in tree.body if isinstance(one, (ast.FunctionDef, ast.ClassDef))]
                defined += [one.targets[0].id for one in tree.body if isinstance(one, ast.Assign)]
                for alias in node.names:
                    self.assertIn(alias.name, defined, (file, alias.name))
                    self.assertIn(alias.name, used, (file, alias.name))

    def test_builtins_and_methods(self):
        own = {node.name for file in FILES for node in nodes(file, ast.FunctionDef)}
        for file in FILES:
            for node in nodes(file, ast.Name):
                if hasattr(builtins, node.id):
                    self.assertIn(node.id, BUILTINS, (file, node.lineno))
            for node in nodes(file, ast.Call):
                if isinstance(node.func, ast.Attribute):
                    self.assertIn(node.func.attr, METHODS | own, (file, node.lineno))

    def test_no_name_is_given_another_meaning(self):
        for file in FILES:
            taken = {alias.name for node in nodes(file, ast.ImportFrom) for alias in node.names}
            taken |= {node.name for node in nodes(file, ast.ClassDef)} | set(dir(builtins))
            given = [node.arg for node in nodes(file, ast.arg)] + [node.name for node in nodes(file, ast.FunctionDef)]
            given += [node.id for node in nodes(file, ast.Name) if isinstance(node.ctx, ast.Store)]
            self.assertEqual([name for name in given if name in taken], [], file)

    def test_expressions(self):
        for file in FILES:
            self.assertEqual(nodes(file, ast.Div, ast.Global, ast.AsyncFunctionDef), [], file)
            for node in nodes(file, ast.Constant):
                self.assertNotIsInstance(node.value, float, (file, node.lineno))
                self.assertNotIn("%", str(node.value), (file, node.lineno))
            for node in nodes(file, ast.Compare):
                for sign, right in zip(node.ops, node.comparators):
                    if isinstance(sign, (ast.Is, ast.IsNot)):
                        self.assertIn(getattr(right, "value", 0), (None, True, False), (file, node.lineno))

    def test_iterated_at_once(self):
        for file in FILES:
            self.assertEqual(nodes(file, ast.GeneratorExp), [], file)
            for node in nodes(file, ast.Assign, ast.AugAssign, ast.Return):
                called = getattr(getattr(node.value, "func", None), "id", None)
                self.assertNotIn(called, ("range", "zip", "enumerate", "reversed", "set"), (file, node.lineno))

    def test_methods_and_attributes(self):
        classes = [node for file in FILES for node in nodes(file, ast.ClassDef)]
        methods = {each.name for node in classes for each in node.body if isinstance(each, ast.FunctionDef)}
        found = [node for file in FILES for node in nodes(file, ast.Attribute)]
        given = {node.attr for node in found if isinstance(node.ctx, ast.Store)}
        self.assertEqual(methods & given, set())
        self.assertLessEqual({node.attr for node in found} - METHODS, methods | given)

    def test_no_errors_of_python_are_caught(self):
        own = {node.name for node in nodes(PACKAGE / "errors.py", ast.ClassDef)}
        for file in FILES:
            for node in nodes(file, ast.ExceptHandler):
                self.assertIn(getattr(node.type, "id", None), own, (file, node.lineno))


if __name__ == "__main__":
    unittest.main()
