"""Such rules of LANGUAGE.md as are quickly checked, over each file of the package."""

import ast
import pathlib
import re
import unittest

PACKAGE = pathlib.Path(__file__).resolve().parent.parent / "shapecourt"
BUILTINS = set(
    "len range enumerate zip min max sum abs sorted reversed int str bool bytes list tuple dict set frozenset "
    "isinstance ord repr any all divmod Exception ValueError TypeError KeyError IndexError LookupError "
    "ZeroDivisionError ArithmeticError OverflowError RuntimeError NotImplementedError AttributeError "
    "StopIteration NotImplemented super property staticmethod classmethod".split())
BARRED_WORDS = re.compile(
    r"\b(type|typing|typing_extensions|enum|Enum|IntEnum|StrEnum|Flag|IntFlag|Generic|Protocol|ABC|ABCMeta"
    r"|namedtuple|NamedTuple|TypedDict|TYPE_CHECKING|abstractmethod)\b|dataclass|overload|contextmanager")
BARRED_NODES = (ast.Global, ast.AsyncFunctionDef, ast.AsyncFor, ast.AsyncWith, ast.Await, ast.Div, ast.Import)


def files():
    return sorted(PACKAGE.glob("*.py"))


def bound_names(tree):
    """Each name that is bound somewhere in a file."""
    for node in ast.walk(tree):
        if isinstance(node, (ast.FunctionDef, ast.ClassDef)):
            yield node.name
        elif isinstance(node, ast.arg):
            yield node.arg
        elif isinstance(node, ast.Name) and isinstance(node.ctx, ast.Store):
            yield node.id
        elif isinstance(node, ast.alias):
            yield node.asname or node.name


class TestLanguage(unittest.TestCase):
    def each_file(self):
        for path in files():
            with self.subTest(path.name):
                yield path.read_text("ascii")

    def each_tree(self):
        for text in self.each_file():
            yield ast.parse(text)

    def test_the_folder_holds_files_alone(self):
        names = [path.name for path in PACKAGE.iterdir() if path.name != "__pycache__"]
        self.assertIn("__init__.py", names)
        for name in names:
            self.assertRegex(name, r"\A(__init__|__main__|[a-z][a-z0-9_]*)\.py\Z")

    def test_signs_and_sizes(self):
        for text in self.each_file():
            self.assertRegex(text, r"\A[ -~\n]*\Z")
            self.assertLessEqual(len(text.splitlines()), 400)
            self.assertLessEqual(max(len(line) for line in text.splitlines()), 120)

    def test_barred_words(self):
        for text in self.each_file():
            self.assertIsNone(BARRED_WORDS.search(text))

    def test_functions_are_short(self):
        for tree in self.each_tree():
            for node in ast.walk(tree):
                if isinstance(node, ast.FunctionDef):
                    self.assertLessEqual(node.end_lineno - node.lineno + 1, 40, node.name)

    def test_statements_and_literals(self):
        for tree in self.each_tree():
            for node in ast.walk(tree):
                self.assertNotIsInstance(node, BARRED_NODES)
                if isinstance(node, ast.Constant):
                    self.assertNotIsInstance(node.value, (float, complex))
                    self.assertFalse(isinstance(node.value, str) and "%" in node.value)

    def test_imports_are_of_the_package(self):
        for tree in self.each_tree():
            for node in ast.walk(tree):
                if isinstance(node, ast.ImportFrom):
                    self.assertEqual(node.level, 0)
                    self.assertRegex(node.module, r"\Ashapecourt\.[a-z]+\Z")
                    self.assertTrue((PACKAGE / (node.module.split(".")[1] + ".py")).exists())

    def test_names_bound_are_plain(self):
        outside = set(dir(__builtins__)) if not isinstance(__builtins__, dict) else set(__builtins__)
        for tree in self.each_tree():
            for name in bound_names(tree):
                self.assertNotIn(name, outside)
                self.assertRegex(name, r"\A([A-Za-z][A-Za-z0-9_]*|__(init|eq|repr|str|len)__)\Z")

    def test_names_read_are_bound_or_listed(self):
        for tree in self.each_tree():
            known = BUILTINS | set(bound_names(tree))
            for node in ast.walk(tree):
                if isinstance(node, ast.Name) and isinstance(node.ctx, ast.Load):
                    self.assertIn(node.id, known)

    def test_no_method_is_an_attribute_elsewhere(self):
        methods, attributes = set(), set()
        for tree in self.each_tree():
            for node in ast.walk(tree):
                if isinstance(node, ast.ClassDef):
                    methods |= {part.name for part in node.body if isinstance(part, ast.FunctionDef)}
                elif isinstance(node, ast.Attribute) and isinstance(node.ctx, ast.Store):
                    attributes.add(node.attr)
        self.assertFalse(methods & attributes)

    def test_methods_and_builtins_are_called_where_they_stand(self):
        methods = {part.name for path in files() for node in ast.walk(ast.parse(path.read_text("ascii")))
                   if isinstance(node, ast.ClassDef) for part in node.body if isinstance(part, ast.FunctionDef)}
        for tree in self.each_tree():
            called = [node.func for node in ast.walk(tree) if isinstance(node, ast.Call)]
            named = [part for node in ast.walk(tree) if isinstance(node, ast.Call) and isinstance(node.func, ast.Name)
                     and node.func.id == "isinstance" for part in ast.walk(node.args[1])]
            bases = [base for node in ast.walk(tree) if isinstance(node, ast.ClassDef) for base in node.bases]
            for node in ast.walk(tree):
                if isinstance(node, ast.Attribute) and node.attr in methods:
                    self.assertIn(node, called)
                elif isinstance(node, ast.Name) and node.id in BUILTINS:
                    self.assertIn(node, called + named + bases)

    def test_imports_name_the_defining_file_and_go_no_round(self):
        trees = {path.stem: ast.parse(path.read_text("ascii")) for path in files()}
        imports = {name: [node for node in tree.body if isinstance(node, ast.ImportFrom)] for name, tree in trees.items()}
        reached = {name: {node.module.split(".")[1] for node in nodes} for name, nodes in imports.items()}
        for turn in trees:
            reached = {name: told.union(*[reached[other] for other in told]) for name, told in reached.items()}
        for name, nodes in imports.items():
            self.assertNotIn(name, reached[name])
            for node in nodes:
                tree = trees[node.module.split(".")[1]]
                defined = {part.name for part in tree.body if isinstance(part, (ast.FunctionDef, ast.ClassDef))}
                defined |= {part.targets[0].id for part in tree.body if isinstance(part, ast.Assign)}
                self.assertLessEqual({alias.name for alias in node.names}, defined)

    def test_locals_have_no_imports_or_classes_name(self):
        for tree in self.each_tree():
            outer = {alias.name for part in tree.body if isinstance(part, ast.ImportFrom) for alias in part.names}
            outer |= {part.name for part in tree.body if isinstance(part, ast.ClassDef)}
            for node in ast.walk(tree):
                if isinstance(node, ast.arg):
                    self.assertNotIn(node.arg, outer)
                elif isinstance(node, ast.Name) and isinstance(node.ctx, ast.Store):
                    self.assertNotIn(node.id, outer)


if __name__ == "__main__":
    unittest.main()
