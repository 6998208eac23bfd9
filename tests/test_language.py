"""The rules of ../shared/LANGUAGE.md that a glance at the package's files can check."""

import ast
import re
import unittest
from pathlib import Path

PACKAGE = Path(__file__).resolve().parent.parent / "conekin"

BUILTINS = set(
    "len range enumerate zip min max sum abs sorted reversed int str bool bytes list tuple dict set frozenset "
    "isinstance ord repr any all divmod Exception ValueError TypeError KeyError IndexError LookupError "
    "ZeroDivisionError ArithmeticError OverflowError RuntimeError NotImplementedError AttributeError "
    "StopIteration".split()
)
BARRED_NAMES = set(
    "register mro elements open input version_info with_traceback add_note attrgetter breakpoint builtins compile "
    "copyright credits delattr dir eval exec exit gc getattr globals hasattr help id importlib license locals "
    "methodcaller os quit setattr super vars sys hash next map round filter print chr".split()
)
BARRED_WORDS = (
    r"\b(type|typing|typing_extensions|enum|Enum|IntEnum|StrEnum|Flag|IntFlag|Generic|Protocol|ABC|ABCMeta|"
    r"namedtuple|NamedTuple|TypedDict|TYPE_CHECKING|abstractmethod)\b|dataclass|overload|contextmanager"
)
BARRED_NODES = (
    ast.Global, ast.AsyncFunctionDef, ast.AsyncFor, ast.AsyncWith, ast.Await, ast.NamedExpr, ast.Div, ast.Import,
    ast.MatMult,
)


def sources():
    for path in sorted(PACKAGE.glob("*.py")):
        text = path.read_text(encoding="utf-8")
        yield path.name, text, ast.parse(text)


def bound_names(tree):
    """All names that a file binds anywhere."""
    for node in ast.walk(tree):
        if isinstance(node, (ast.FunctionDef, ast.ClassDef)):
            yield node.name
        elif isinstance(node, ast.arg):
            yield node.arg
        elif isinstance(node, ast.Name) and isinstance(node.ctx, ast.Store):
            yield node.id
        elif isinstance(node, ast.alias):
            yield node.asname or node.name


class Language(unittest.TestCase):
    def test_the_folder_holds_plain_files_alone(self):
        for path in PACKAGE.iterdir():
            if path.name != "__pycache__":
                self.assertRegex(path.name, r"^([a-z][a-z0-9_]*|__init__|__main__)\.py$")

    def test_characters_and_sizes(self):
        for name, text, tree in sources():
            self.assertRegex(text, r"\A[ -~\n]*\Z", name)
            rows = text.split("\n")
            self.assertLessEqual(len(rows), 401, name)
            self.assertLessEqual(max(len(row) for row in rows), 120, name)
            for node in ast.walk(tree):
                if isinstance(node, ast.FunctionDef):
                    self.assertLessEqual(node.end_lineno - node.lineno + 1, 40, f"{name}: {node.name}")

    def test_barred_words(self):
        for name, text, tree in sources():
            self.assertIsNone(re.search(BARRED_WORDS, text), name)

    def test_names(self):
        for name, text, tree in sources():
            told = list(bound_names(tree))
            self.assertEqual([one for one in told if one in BARRED_NAMES | BUILTINS], [], name)
            self.assertEqual([one for one in told if one.startswith("_") and not one.startswith("__")], [], name)

    def test_no_local_name_is_that_of_an_import_or_a_class(self):
        for name, text, tree in sources():
            taken = [alias.asname or alias.name for node in tree.body if isinstance(node, ast.ImportFrom)
                     for alias in node.names]
            taken += [node.name for node in tree.body if isinstance(node, ast.ClassDef)]
            told = list(bound_names(tree))
            self.assertEqual([one for one in taken if told.count(one) > 1], [], name)

    def test_only_known_names_are_read(self):
        for name, text, tree in sources():
            known = BUILTINS | set(bound_names(tree))
            read = [node.id for node in ast.walk(tree) if isinstance(node, ast.Name)]
            self.assertEqual([one for one in read if one not in known], [], name)

    def test_module_level_names_are_bound_once(self):
        for name, text, tree in sources():
            told = []
            for node in tree.body:
                if isinstance(node, ast.ImportFrom):
                    told += [alias.asname or alias.name for alias in node.names]
                elif isinstance(node, (ast.FunctionDef, ast.ClassDef)):
                    told.append(node.name)
                elif isinstance(node, ast.Assign):
                    told += [target.id for target in node.targets]
                else:
                    self.assertTrue(isinstance(node, ast.Expr) and isinstance(node.value, ast.Constant), name)
            self.assertEqual(len(told), len(set(told)), name)

    def test_imports_come_from_the_package(self):
        for name, text, tree in sources():
            for node in ast.walk(tree):
                if isinstance(node, ast.ImportFrom):
                    self.assertEqual(node.level, 0, name)
                    self.assertRegex(node.module, r"^conekin\.[a-z]+$", name)
                    self.assertNotIn("*", [alias.name for alias in node.names], name)

    def test_imports_name_the_file_that_defines_the_name(self):
        defined, imported = {}, {}
        for name, text, tree in sources():
            module = "conekin." + name.removesuffix(".py")
            defined[module] = {node.name for node in tree.body if isinstance(node, (ast.FunctionDef, ast.ClassDef))}
            defined[module] |= {target.id for node in tree.body if isinstance(node, ast.Assign)
                                for target in node.targets}
            imported[module] = [node for node in tree.body if isinstance(node, ast.ImportFrom)]
        for module, nodes in imported.items():
            for node in nodes:
                self.assertEqual([alias.name for alias in node.names if alias.name not in defined[node.module]], [])

    def test_no_two_files_import_from_each_other(self):
        left = {"conekin." + name.removesuffix(".py"): {node.module for node in tree.body
                if isinstance(node, ast.ImportFrom)} for name, text, tree in sources()}
        while left:
            done = [module for module in left if not left[module] & set(left)]
            self.assertNotEqual(done, [], sorted(left))
            for module in done:
                del left[module]

    def test_what_is_not_used(self):
        for name, text, tree in sources():
            for node in ast.walk(tree):
                self.assertNotIsInstance(node, BARRED_NODES, name)
                if isinstance(node, ast.Constant):
                    self.assertNotIsInstance(node.value, float, name)
                    self.assertFalse(isinstance(node.value, str) and "%" in node.value, name)
                if isinstance(node, ast.Compare):
                    for sign, other in zip(node.ops, node.comparators):
                        if isinstance(sign, (ast.Is, ast.IsNot)):
                            self.assertIn(ast.unparse(other), ("None", "True", "False"), name)


if __name__ == "__main__":
    unittest.main()
