"""The rules of ../shared/LANGUAGE.md that can be checked by looking at the files."""

import ast
import builtins
import pathlib
import re
import unittest

from surehollows import errors

FOLDER = pathlib.Path(__file__).resolve().parent.parent / "surehollows"

BUILTINS = set("""
    len range enumerate zip min max sum abs sorted reversed int str bool bytes list tuple dict set isinstance ord repr
    any all divmod iter next super property staticmethod classmethod NotImplemented
    Exception ValueError TypeError KeyError IndexError LookupError ZeroDivisionError ArithmeticError OverflowError
    RuntimeError NotImplementedError AttributeError StopIteration
""".split())

METHODS = set("""
    append clear copy count endswith extend find get index insert isalnum isalpha isdigit islower isspace isupper items
    join keys ljust lower lstrip partition pop remove replace reverse rfind rjust rpartition rsplit rstrip setdefault
    split splitlines startswith strip update upper values zfill bit_length title capitalize swapcase casefold center
    expandtabs removeprefix removesuffix rindex isascii isdecimal isnumeric istitle isidentifier isprintable add discard
    __init__
""".split())

BARRED = re.compile(r"""
    \b(type|typing|typing_extensions|enum|Enum|IntEnum|StrEnum|Flag|IntFlag|Generic|Protocol|ABC|ABCMeta|namedtuple
    |NamedTuple|TypedDict|TYPE_CHECKING|abstractmethod|register|mro|elements|open|input|law)\b
    |dataclass|overload|contextmanager
""", re.VERBOSE)

PLAIN = (ast.Module, ast.Assign, ast.Tuple, ast.Attribute, ast.Name, ast.expr_context)


def files():
    return sorted(FOLDER.rglob("*.py"))


def trees():
    return [(path, ast.parse(path.read_text())) for path in files()]


def nodes(kinds):
    return [(path, node) for path, tree in trees() for node in ast.walk(tree) if isinstance(node, kinds)]


class TestLanguage(unittest.TestCase):

    def test_the_folder_contains_python_files_alone(self):
        found = [path for path in FOLDER.rglob("*") if path.is_file() and "__pycache__" not in path.parts]
        self.assertEqual(sorted(found), files())
        self.assertIn(FOLDER / "__init__.py", found)

    def test_characters_words_and_sizes(self):
        for path in files():
            text = path.read_text()
            self.assertRegex(text, r"\A[ -~\n]*\Z", path)
            self.assertNotRegex(text, BARRED, path)
            lines = text.splitlines()
            self.assertLessEqual(len(lines), 399, path)
            self.assertLessEqual(max([len(line) for line in lines], default=0), 120, path)

    def test_functions_are_small(self):
        for path, node in nodes(ast.FunctionDef):
            self.assertLessEqual(node.end_lineno - node.lineno + 1, 40, (path, node.name))

    def test_imports_name_the_files_that_define(self):
        self.assertEqual(nodes(ast.Import), [])
        for path, node in nodes(ast.ImportFrom):
            self.assertEqual((node.level, node.module.split(".")[0]), (0, "surehollows"), path)
            source = FOLDER.parent.joinpath(*node.module.split(".")).with_suffix(".py")
            body = ast.parse(source.read_text()).body
            defined = [row.name for row in body if isinstance(row, (ast.FunctionDef, ast.ClassDef))]
            defined += [row.targets[0].id for row in body if isinstance(row, ast.Assign)]
            for alias in node.names:
                self.assertIn(alias.name, defined, path)

    def test_builtins(self):
        for path, node in nodes(ast.Name):
            if hasattr(builtins, node.id):
                self.assertIn(node.id, BUILTINS, (path, node.lineno))
                self.assertIsInstance(node.ctx, ast.Load, (path, node.lineno))

    def test_methods(self):
        own = [node.name for _, node in nodes(ast.FunctionDef)]
        for path, node in nodes(ast.Call):
            if isinstance(node.func, ast.Attribute):
                self.assertIn(node.func.attr, METHODS | set(own), (path, node.lineno))

    def test_no_name_is_a_method_and_an_attribute(self):
        methods = [row.name for _, node in nodes(ast.ClassDef) for row in node.body if isinstance(row, ast.FunctionDef)]
        for path, node in nodes(ast.Attribute):
            if isinstance(node.ctx, ast.Store):
                self.assertNotIn(node.attr, methods, (path, node.lineno))

    def test_no_name_means_two_things_in_one_file(self):
        for path, tree in trees():
            fixed = [alias.name for node in ast.walk(tree) if isinstance(node, ast.ImportFrom) for alias in node.names]
            fixed += [node.name for node in ast.walk(tree) if isinstance(node, ast.ClassDef)]
            assigned = [node.arg for node in ast.walk(tree) if isinstance(node, ast.arg)]
            assigned += [
                node.id for node in ast.walk(tree) if isinstance(node, ast.Name) and isinstance(node.ctx, ast.Store)]
            self.assertEqual(set(fixed) & set(assigned), set(), path)
            self.assertEqual([name for name in assigned if name.startswith("_") or hasattr(builtins, name)], [], path)

    def test_files_import_in_one_direction(self):
        needs = {path.stem: set() for path in files()}
        for path, node in nodes(ast.ImportFrom):
            needs[path.stem].add(node.module.split(".")[1])
        while needs:
            free = [name for name in needs if not needs[name] & set(needs)]
            self.assertNotEqual(free, [], needs)
            for name in free:
                del needs[name]

    def test_is_stands_beside_none_true_and_false(self):
        for path, node in nodes(ast.Compare):
            for sign, right in zip(node.ops, node.comparators):
                if isinstance(sign, (ast.Is, ast.IsNot)):
                    self.assertIsInstance(right, ast.Constant, (path, node.lineno))
                    self.assertIn(right.value, [None, True, False], (path, node.lineno))

    def test_statements_and_expressions(self):
        barred = (
            ast.GeneratorExp, ast.Global, ast.Div, ast.Yield, ast.YieldFrom, ast.Await, ast.AsyncFunctionDef, ast.Set,
            ast.Lambda, ast.With)
        for path, node in nodes(barred):
            self.fail((path, node.lineno if hasattr(node, "lineno") else node))

    def test_tries_name_own_errors_and_end_in_plain_assignments(self):
        for path, node in nodes(ast.Try):
            for handler in node.handlers:
                self.assertTrue(issubclass(getattr(errors, handler.type.id), errors.SurveyError), (path, handler.lineno))
            for row in node.finalbody:
                self.assertIsInstance(row, ast.Assign, (path, row.lineno))
                for part in ast.walk(ast.Module([row], [])):
                    self.assertIsInstance(part, PLAIN, (path, row.lineno))

    def test_strings_and_floats(self):
        for path, node in nodes(ast.Constant):
            self.assertNotIsInstance(node.value, float, (path, node.lineno))
            if isinstance(node.value, str):
                self.assertNotIn("%", node.value, (path, node.lineno))


if __name__ == "__main__":
    unittest.main()
