"""The rules of LANGUAGE.md that can be seen file by file."""

import ast
import builtins
import re
import unittest
from pathlib import Path

PACKAGE = Path(__file__).resolve().parent.parent / "facecounts"
FILES = sorted(PACKAGE.glob("*.py"))

OWN_NAMES = set(
    "len range enumerate zip min max sum abs sorted reversed int str bool bytes list tuple dict set frozenset "
    "isinstance ord repr any all divmod Exception ValueError TypeError KeyError IndexError LookupError "
    "ZeroDivisionError ArithmeticError OverflowError RuntimeError NotImplementedError AttributeError StopIteration".split()
)
UNUSED_NAMES = set(
    "register mro elements open input version_info with_traceback add_note attrgetter breakpoint builtins compile "
    "copyright credits delattr dir eval exec exit gc getattr globals hasattr help id importlib license locals "
    "methodcaller os quit setattr super type vars sys".split()
)
UNUSED_WORDS = re.compile(
    r"\b(type|typing|typing_extensions|enum|Enum|IntEnum|StrEnum|Flag|IntFlag|Generic|Protocol|ABC|ABCMeta|"
    r"namedtuple|NamedTuple|TypedDict|TYPE_CHECKING|abstractmethod)\b|dataclass|overload|contextmanager"
)
METHODS = set(
    "append clear copy count endswith extend find get index insert isalnum isalpha isdigit islower isspace isupper "
    "items join keys ljust lower lstrip partition pop remove replace reverse rfind rjust rpartition rsplit rstrip "
    "setdefault split splitlines startswith strip update upper values zfill bit_length add discard sort".split()
)
UNUSED_NODES = (
    ast.With, ast.Match, ast.Global, ast.Nonlocal, ast.Yield, ast.YieldFrom, ast.AsyncFunctionDef, ast.AsyncFor,
    ast.AsyncWith, ast.Await, ast.GeneratorExp, ast.NamedExpr, ast.Div, ast.MatMult, ast.Import,
)


def tree_of(file):
    return ast.parse(file.read_text(encoding="ascii"))


def bound_names(tree):
    """Tell each name that a file gives a meaning."""
    names = []
    for node in ast.walk(tree):
        if isinstance(node, (ast.FunctionDef, ast.ClassDef)):
            names.append(node.name)
        elif isinstance(node, ast.arg):
            names.append(node.arg)
        elif isinstance(node, ast.Name) and not isinstance(node.ctx, ast.Load):
            names.append(node.id)
    return names


def top_names(tree):
    """Tell each name that is bound at a file's top."""
    names = []
    for node in tree.body:
        if isinstance(node, (ast.FunctionDef, ast.ClassDef)):
            names.append(node.name)
        elif isinstance(node, ast.ImportFrom):
            names += [part.asname or part.name for part in node.names]
        elif isinstance(node, ast.Assign):
            names += [target.id for target in node.targets]
    return names


def drawn_from(file):
    """Tell the files of the package that a file draws from."""
    rows = [node for node in ast.walk(tree_of(file)) if isinstance(node, ast.ImportFrom)]
    return sorted({row.module.partition(".")[2] for row in rows if row.module.startswith("facecounts.")})


class Language(unittest.TestCase):

    def each_node(self, kinds):
        for file in FILES:
            for node in ast.walk(tree_of(file)):
                if isinstance(node, kinds):
                    yield file.name, node

    def test_nothing_else_lies_in_the_package(self):
        found = [path.name for path in PACKAGE.iterdir() if path.name != "__pycache__"]
        self.assertEqual(sorted(found), [file.name for file in FILES])
        self.assertIn("__init__.py", found)
        for name in found:
            self.assertRegex(name, r"\A([a-z][a-z0-9_]*|__init__)\.py\Z")

    def test_sizes_and_signs(self):
        for file in FILES:
            rows = file.read_text(encoding="ascii").split("\n")
            self.assertLessEqual(len(rows), 400, file.name)
            for row in rows:
                self.assertRegex(row, r"\A[ -~]{0,120}\Z", file.name)
        for name, node in self.each_node(ast.FunctionDef):
            self.assertLessEqual(node.end_lineno - node.lineno + 1, 40, (name, node.name))

    def test_words_that_stand_nowhere(self):
        for file in FILES:
            self.assertIsNone(UNUSED_WORDS.search(file.read_text(encoding="ascii")), file.name)

    def test_imports(self):
        for name, row in self.each_node(ast.ImportFrom):
            self.assertEqual((row.level, row.col_offset), (0, 0), name)
            source = PACKAGE / (row.module.removeprefix("facecounts.") + ".py")
            own = [node.name for node in tree_of(source).body if isinstance(node, (ast.FunctionDef, ast.ClassDef))]
            own += [node.targets[0].id for node in tree_of(source).body if isinstance(node, ast.Assign)]
            for part in row.names:
                self.assertIn(part.name, own, name)

    def test_no_two_files_draw_from_one_another(self):
        waiting = {file.stem: drawn_from(file) for file in FILES}
        while waiting:
            free = [name for name, sources in waiting.items() if not any(source in waiting for source in sources)]
            self.assertTrue(free, waiting)
            for name in free:
                del waiting[name]

    def test_statements_and_expressions_that_are_not_used(self):
        for name, node in self.each_node(UNUSED_NODES):
            self.fail((name, node.lineno, node.__class__.__name__))
        for name, node in self.each_node((ast.For, ast.While)):
            self.assertEqual(node.orelse, [], (name, node.lineno))
        for name, node in self.each_node((ast.FunctionDef, ast.ClassDef)):
            self.assertEqual(node.decorator_list, [], (name, node.lineno))
        for name, node in self.each_node(ast.arguments):
            self.assertEqual((node.posonlyargs, node.vararg, node.kwarg), ([], None, None), name)
        for name, node in self.each_node(ast.Constant):
            self.assertNotIsInstance(node.value, (float, complex), (name, node.lineno))
            self.assertFalse(isinstance(node.value, str) and "%" in node.value, (name, node.lineno))

    def test_names(self):
        for file in FILES:
            tree = tree_of(file)
            tops = top_names(tree)
            self.assertEqual(sorted(tops), sorted(set(tops)), file.name)
            bound = bound_names(tree)
            for name in bound:
                self.assertRegex(name, r"\A[A-Za-z][A-Za-z0-9_]*\Z|\A__(init|eq|repr|str|len|all|version)__\Z", file.name)
                self.assertNotIn(name, UNUSED_NAMES | OWN_NAMES | set(dir(builtins)), file.name)
            for node in ast.walk(tree):
                if isinstance(node, ast.Name) and isinstance(node.ctx, ast.Load):
                    self.assertIn(node.id, OWN_NAMES | set(tops) | set(bound), file.name)

    def test_no_local_is_called_like_a_top_name(self):
        for file in FILES:
            tree = tree_of(file)
            for node in ast.walk(tree):
                if isinstance(node, ast.arg):
                    self.assertNotIn(node.arg, top_names(tree), file.name)
                elif isinstance(node, ast.Name) and not isinstance(node.ctx, ast.Load) and node.col_offset > 0:
                    self.assertNotIn(node.id, top_names(tree), file.name)

    def test_methods(self):
        own = [node.name for name, each in self.each_node(ast.ClassDef) for node in each.body
               if isinstance(node, ast.FunctionDef)]
        for name, call in self.each_node(ast.Call):
            if isinstance(call.func, ast.Attribute):
                self.assertIn(call.func.attr, METHODS | set(own), (name, call.lineno))

    def test_classes(self):
        methods, values = set(), set()
        for name, each in self.each_node(ast.ClassDef):
            self.assertLessEqual(len(each.bases), 1, name)
            for node in each.body:
                words = isinstance(node, ast.Expr) and isinstance(node.value, ast.Constant)
                self.assertTrue(words or isinstance(node, ast.FunctionDef), (name, node.lineno))
            methods.update(node.name for node in each.body if isinstance(node, ast.FunctionDef))
        for name, node in self.each_node(ast.Attribute):
            if isinstance(node.ctx, ast.Store):
                values.add(node.attr)
                self.assertEqual(getattr(node.value, "id", ""), "self", (name, node.lineno))
        self.assertEqual(methods & values, set())
        self.assertEqual(values & METHODS, set())

    def test_what_a_top_keeps(self):
        for file in FILES:
            above = []
            for node in tree_of(file).body:
                if isinstance(node, ast.FunctionDef):
                    above.append(node.name)
                elif isinstance(node, ast.Assign):
                    for part in ast.walk(node.value):
                        plain = isinstance(part, (ast.Constant, ast.Tuple, ast.List, ast.Dict, ast.Load))
                        self.assertTrue(plain or part.id in above, (file.name, node.lineno))

    def test_keywords_and_handlers(self):
        own = ("key", "reverse", "default", "start", "strict")
        for name, call in self.each_node(ast.Call):
            self.assertTrue(all(word.arg in own for word in call.keywords), (name, call.lineno))
        for name, handler in self.each_node(ast.ExceptHandler):
            self.assertIsInstance(handler.type, ast.Name, (name, handler.lineno))
            self.assertRegex(handler.type.id, r"\ANo[A-Z]|\ATooMany\Z", (name, handler.lineno))

    def test_is_stands_beside_none_and_truths_alone(self):
        for name, node in self.each_node(ast.Compare):
            for sign, right in zip(node.ops, node.comparators):
                if isinstance(sign, (ast.Is, ast.IsNot)):
                    self.assertIn(getattr(right, "value", 0), (None, True, False), (name, node.lineno))


if __name__ == "__main__":
    unittest.main()
