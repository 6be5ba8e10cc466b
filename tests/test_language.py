"""The files of the package keep to the small language in which it is written, as far as a look at them can tell."""

import ast
import builtins
import pathlib
import re
import unittest

PACKAGE = pathlib.Path(__file__).parent.parent / "sameroom"
FILES = sorted(PACKAGE.glob("*.py"))

STATEMENTS = (
    ast.FunctionDef, ast.ClassDef, ast.Return, ast.Assign, ast.AugAssign, ast.For, ast.While, ast.If, ast.Raise, ast.Try,
    ast.ImportFrom, ast.Expr, ast.Pass, ast.Break, ast.Continue, ast.Delete, ast.Assert,
)
EXPRESSIONS = (
    ast.BoolOp, ast.BinOp, ast.UnaryOp, ast.Lambda, ast.IfExp, ast.Dict, ast.Set, ast.ListComp, ast.SetComp, ast.DictComp,
    ast.GeneratorExp, ast.Yield, ast.YieldFrom, ast.Compare, ast.Call, ast.FormattedValue, ast.JoinedStr, ast.Constant,
    ast.Attribute, ast.Subscript, ast.Starred, ast.Name, ast.List, ast.Tuple, ast.Slice,
)
BUILTINS = """len range enumerate zip min max sum abs sorted reversed int str bool list tuple dict set isinstance ord repr any all
divmod iter super property classmethod staticmethod ValueError KeyError IndexError""".split()
METHODS = """append clear copy count endswith extend find get index insert isalnum isalpha isdigit islower isspace isupper items
join keys ljust lower lstrip partition pop remove replace reverse rfind rjust rpartition rsplit rstrip setdefault split splitlines
startswith strip update upper values zfill bit_length add discard""".split()
DOUBLE = """init eq repr str len iter contains invert call lt le gt ge ne""".split()
NOWHERE = "mro elements open input law version_info with_traceback add_note register".split()
NOT_AS_NAMES = """attrgetter breakpoint builtins compile delattr dir eval exec exit gc globals help importlib locals methodcaller
os sys vars __name__""".split()
WORDS = re.compile(
    r"\b(type|typing|typing_extensions|enum|Enum|IntEnum|StrEnum|Flag|IntFlag|Generic|Protocol|ABC|ABCMeta|namedtuple|NamedTuple"
    r"|TypedDict|TYPE_CHECKING|abstractmethod)\b|dataclass|overload|contextmanager|_wall"
)


def strings_of(tree):
    return [node for node in ast.walk(tree) if isinstance(node, ast.Constant) and isinstance(node.value, str)]


def docstrings_of(tree):
    holders = [node for node in ast.walk(tree) if isinstance(node, (ast.Module, ast.ClassDef, ast.FunctionDef))]
    return [holder.body[0].value for holder in holders if ast.get_docstring(holder) is not None]


def bound_names(tree):
    """All pairs (name, line) of variables, parameters, functions, classes and imports."""
    for node in ast.walk(tree):
        if isinstance(node, ast.Name) and not isinstance(node.ctx, ast.Load):
            yield node.id, node.lineno
        elif isinstance(node, ast.arg):
            yield node.arg, node.lineno
        elif isinstance(node, (ast.FunctionDef, ast.ClassDef)):
            yield node.name, node.lineno
        elif isinstance(node, ast.alias):
            yield node.name, node.lineno
        elif isinstance(node, ast.ExceptHandler) and node.name:
            yield node.name, node.lineno


class LanguageTest(unittest.TestCase):
    def setUp(self):
        self.texts = {path.stem: path.read_text(encoding="utf-8") for path in FILES}
        self.trees = {stem: ast.parse(text) for stem, text in self.texts.items()}
        self.own = {
            node.name for tree in self.trees.values() for node in ast.walk(tree) if isinstance(node, (ast.FunctionDef, ast.ClassDef))
        }
        self.set_attributes = {
            node.attr for tree in self.trees.values() for node in ast.walk(tree)
            if isinstance(node, ast.Attribute) and isinstance(node.ctx, ast.Store)
        }

    def every_node(self):
        for stem, tree in self.trees.items():
            for node in ast.walk(tree):
                yield stem, node

    def test_files(self):
        found = sorted(path.name for path in PACKAGE.iterdir() if path.name != "__pycache__")
        self.assertEqual(found, [path.name for path in FILES])
        self.assertIn("__init__.py", found)
        for stem, text in self.texts.items():
            self.assertRegex(stem, r"\A(__init__|[a-z]+)\Z")
            self.assertRegex(text, r"\A[ -~\n]*\Z")
            self.assertLessEqual(len(text.splitlines()), 399, stem)
            self.assertLessEqual(max(map(len, text.splitlines())), 120, stem)

    def test_functions_are_short(self):
        for stem, node in self.every_node():
            if isinstance(node, ast.FunctionDef):
                self.assertLessEqual(node.end_lineno - node.lineno + 1, 40, (stem, node.name))

    def test_imports(self):
        imported = {}
        for stem, tree in self.trees.items():
            body = tree.body[1:] if ast.get_docstring(tree) is not None else tree.body
            imports = [node for node in body if isinstance(node, ast.ImportFrom)]
            self.assertEqual(body[:len(imports)], imports, stem)
            imported[stem] = [node.module.removeprefix("sameroom.") for node in imports]
            for node in imports:
                self.assertTrue(node.module.startswith("sameroom.") and node.level == 0, (stem, node.lineno))
                source = self.trees[node.module.removeprefix("sameroom.")]
                defined = {part.name for part in source.body if isinstance(part, (ast.FunctionDef, ast.ClassDef))}
                defined |= {target.id for part in source.body if isinstance(part, ast.Assign) for target in part.targets}
                for name in node.names:
                    self.assertTrue(name.name in defined and name.asname is None, (stem, name.name))
        while imported:
            last = [stem for stem, others in imported.items() if not set(others) & set(imported)]
            self.assertNotEqual(last, [], f"a circle of imports among {sorted(imported)}")
            for stem in last:
                del imported[stem]

    def test_module_level(self):
        for stem, tree in self.trees.items():
            for node in tree.body:
                plain = isinstance(node, (ast.ImportFrom, ast.FunctionDef, ast.ClassDef)) or node in tree.body[:1]
                if isinstance(node, ast.Assign):
                    self.assertEqual(len(node.targets), 1)
                    plain = isinstance(node.targets[0], ast.Name)
                    self.assertFalse([part for part in ast.walk(node.value) if isinstance(part, (ast.Call, ast.Lambda, ast.ListComp))])
                self.assertTrue(plain, (stem, node.lineno))

    def test_kinds_of_statements_and_expressions(self):
        for stem, node in self.every_node():
            if isinstance(node, ast.stmt):
                self.assertIsInstance(node, STATEMENTS, (stem, node.lineno))
            if isinstance(node, ast.expr):
                self.assertIsInstance(node, EXPRESSIONS, (stem, node.lineno))
            if isinstance(node, (ast.BinOp, ast.AugAssign)):
                self.assertNotIsInstance(node.op, (ast.Div, ast.MatMult), (stem, node.lineno))
            if isinstance(node, ast.Constant):
                self.assertIn(type(node.value), (int, str, bool, type(None)), (stem, node.lineno))
            if isinstance(node, ast.Compare) and isinstance(node.ops[0], (ast.Is, ast.IsNot)):
                self.assertIsInstance(node.comparators[0], ast.Constant, (stem, node.lineno))
            if isinstance(node, ast.ExceptHandler):
                self.assertIsInstance(node.type, ast.Name, (stem, node.lineno))
            if isinstance(node, (ast.FunctionDef, ast.arg)):
                self.assertIsNone(node.returns if isinstance(node, ast.FunctionDef) else node.annotation)

    def test_classes(self):
        for stem, node in self.every_node():
            if isinstance(node, ast.FunctionDef):
                names = [getattr(mark, "id", None) for mark in node.decorator_list]
                self.assertIn(names, ([], ["property"], ["classmethod"]), (stem, node.name))
                if node.name.startswith("__"):
                    self.assertIn(node.name.strip("_"), DOUBLE, (stem, node.name))
            if isinstance(node, ast.ClassDef):
                self.assertEqual(node.decorator_list, [])
                self.assertFalse([part for part in node.body if not isinstance(part, (ast.FunctionDef, ast.Expr))], node.name)
                methods = {part.name for part in node.body if isinstance(part, ast.FunctionDef)}
                attributes = {part.attr for part in ast.walk(node) if isinstance(part, ast.Attribute) and isinstance(part.ctx, ast.Store)}
                self.assertEqual(methods & attributes, set(), node.name)
            if isinstance(node, ast.FunctionDef) and node.name == "__eq__":
                self.assertRegex(ast.unparse(node.body[0]), r"\Aif not isinstance\(other, [A-Z]\w+\):\n    return False\Z")

    def test_names(self):
        barred = {*NOWHERE, *NOT_AS_NAMES, *vars(builtins)}
        for stem, tree in self.trees.items():
            imports = {name.name for node in ast.walk(tree) if isinstance(node, ast.ImportFrom) for name in node.names}
            classes = {node.name for node in ast.walk(tree) if isinstance(node, ast.ClassDef)}
            inner = [node for node in ast.walk(tree) if isinstance(node, (ast.arg, ast.Name))]
            for name, line in bound_names(tree):
                self.assertNotIn(name, barred, (stem, line))
                self.assertRegex(name, r"\A(_|_?[A-Za-z][A-Za-z0-9_]*|__[a-z]+__)\Z", (stem, line))
            for node in inner:
                name = node.arg if isinstance(node, ast.arg) else node.id
                if isinstance(node, ast.arg) or isinstance(node.ctx, ast.Store):
                    self.assertNotIn(name, imports | classes, (stem, node.lineno))
                self.assertFalse(name == "_" and isinstance(getattr(node, "ctx", None), ast.Load), (stem, node.lineno))

    def test_builtins_and_methods(self):
        for stem, node in self.every_node():
            if isinstance(node, ast.Name) and isinstance(node.ctx, ast.Load) and node.id in vars(builtins):
                self.assertIn(node.id, BUILTINS, (stem, node.lineno))
            if isinstance(node, ast.Attribute):
                self.assertNotIn(node.attr, NOWHERE, (stem, node.lineno))
                self.assertFalse(node.attr.startswith("__") and node.attr != "__init__", (stem, node.lineno))
                known = node.attr in METHODS or node.attr in self.own or node.attr in self.set_attributes
                self.assertTrue(known or node.attr == "__init__", (stem, node.lineno, node.attr))

    def test_comprehensions_for_all_and_any(self):
        takers = ("any", "all", "min", "max", "sum", "sorted")
        for stem, node in self.every_node():
            if isinstance(node, ast.Call) and isinstance(node.func, ast.Name) and node.func.id in takers:
                self.assertFalse([part for part in node.args if isinstance(part, ast.GeneratorExp)], (stem, node.lineno))

    def test_words_and_strings(self):
        for stem, tree in self.trees.items():
            documents = docstrings_of(tree)
            names = {part for node in ast.walk(tree) for part in (getattr(node, "id", ""), getattr(node, "attr", ""), getattr(node, "arg", ""))}
            self.assertFalse([name for name in names if isinstance(name, str) and WORDS.search(name)], stem)
            for node in strings_of(tree):
                if node not in documents:
                    self.assertIsNone(WORDS.search(node.value), (stem, node.lineno))
                    self.assertNotIn("%", node.value, (stem, node.lineno))
                    self.assertFalse(node.value.startswith("__"), (stem, node.lineno))
            self.assertNotIn("_wall", self.texts[stem])


if __name__ == "__main__":
    unittest.main()
