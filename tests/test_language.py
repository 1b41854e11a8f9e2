"""The package keeps to the small part of Python that it is written in, as far as a walk over its files can tell."""

import ast
import builtins
import pathlib
import re
import unittest

PACKAGE = pathlib.Path(__file__).resolve().parent.parent / "measurebook"

STATEMENTS = (ast.FunctionDef, ast.ClassDef, ast.ImportFrom, ast.Assign, ast.AugAssign, ast.If, ast.While, ast.For,
              ast.Return, ast.Break, ast.Continue, ast.Pass, ast.Raise, ast.Try, ast.Expr)
EXPRESSIONS = (ast.Constant, ast.Name, ast.Attribute, ast.Subscript, ast.Slice, ast.Call, ast.BinOp, ast.UnaryOp,
               ast.BoolOp, ast.Compare, ast.IfExp, ast.List, ast.Tuple, ast.Dict, ast.ListComp, ast.JoinedStr,
               ast.FormattedValue, ast.Lambda)
OPERATORS_OUT = (ast.Div, ast.MatMult)
FUNCTIONS = set("""len range enumerate zip min max sum abs sorted reversed int str bool list tuple dict set frozenset
    isinstance ord repr any all divmod""".split())
ERRORS = set("""Exception ValueError TypeError KeyError IndexError LookupError ZeroDivisionError ArithmeticError
    OverflowError RuntimeError NotImplementedError AttributeError StopIteration""".split())
METHODS = set("""append clear copy count endswith extend find get index insert isalnum isalpha isdigit islower isspace
    isupper items join keys ljust lower lstrip partition pop remove replace reverse rfind rjust rpartition rsplit rstrip
    setdefault split splitlines startswith strip update upper values zfill bit_length""".split())
WORDS_OUT = re.compile(r"\b(type|typing|typing_extensions|enum|Enum|IntEnum|StrEnum|Flag|IntFlag|Generic|Protocol|ABC|ABCMeta"
                       r"|namedtuple|NamedTuple|TypedDict|TYPE_CHECKING|abstractmethod)\b"
                       r"|dataclass|overload|contextmanager")
NAMES_OUT = set("""register mro elements open input version_info with_traceback add_note sys os gc""".split())
LAZY = {"zip", "enumerate", "reversed", "range"}
LAZY_METHODS = {"items", "keys", "values"}
WALKERS = {"list", "tuple", "dict", "sorted", "sum", "any", "all", "enumerate", "zip", "min", "max"}


def files():
    return sorted(PACKAGE.glob("*.py"))


def nodes(tree, kind):
    return [node for node in ast.walk(tree) if isinstance(node, kind)]


def bound_names(function):
    """Parameters and locals."""
    names = [argument.arg for argument in function.args.args]
    return names + [node.id for node in nodes(function, ast.Name) if isinstance(node.ctx, ast.Store)]


def parsed(path):
    return ast.parse(path.read_text(encoding="utf-8"))


def own_methods():
    classes = [node for path in files() for node in nodes(parsed(path), ast.ClassDef)]
    return {part.name for node in classes for part in node.body if isinstance(part, ast.FunctionDef)}


def names_of_the_top(tree):
    names = []
    for node in tree.body:
        if isinstance(node, ast.Assign):
            names.append(node.targets[0].id)
        elif isinstance(node, ast.ImportFrom):
            names.extend(alias.name for alias in node.names)
        elif isinstance(node, (ast.FunctionDef, ast.ClassDef)):
            names.append(node.name)
    return names


def on_each_file(check):
    def test(self):
        for path in files():
            with self.subTest(file=path.name):
                check(self, path, parsed(path))
    return test


class Language(unittest.TestCase):
    def test_only_plain_files(self):
        found = [path.name for path in PACKAGE.iterdir() if path.name != "__pycache__"]
        self.assertIn("__init__.py", found)
        for name in found:
            self.assertRegex(name, r"^(__init__|[a-z][a-z0-9_]*)\.py$")
            self.assertNotIn(name[:-3], dir(builtins))

    @on_each_file
    def test_size_and_signs(self, path, tree):
        source = path.read_text(encoding="utf-8")
        lines = source.split("\n")
        self.assertLessEqual(len(lines), 401)
        self.assertLessEqual(max(len(line) for line in lines), 120)
        self.assertRegex(source, r"\A[ -~\n]*\Z")
        self.assertIsNone(WORDS_OUT.search(source))
        for node in nodes(tree, ast.FunctionDef):
            self.assertLessEqual(node.end_lineno - node.lineno + 1, 40, node.name)

    @on_each_file
    def test_statements(self, path, tree):
        for node in nodes(tree, ast.stmt):
            place = f"{type(node).__name__} in line {node.lineno}"
            self.assertIsInstance(node, STATEMENTS, place)
            self.assertFalse(getattr(node, "decorator_list", []), place)
            if isinstance(node, (ast.For, ast.While)):
                self.assertEqual(node.orelse, [], place)
            if isinstance(node, ast.Assign):
                self.assertEqual(len(node.targets), 1, place)
                self.assertIsInstance(node.targets[0], (ast.Name, ast.Attribute, ast.Subscript), place)

    @on_each_file
    def test_expressions(self, path, tree):
        for node in nodes(tree, ast.expr):
            place = f"{type(node).__name__} in line {node.lineno}"
            self.assertIsInstance(node, EXPRESSIONS, place)
            if isinstance(node, ast.Constant):
                self.assertIn(type(node.value), (int, str, bool, type(None)), place)
                self.assertNotIn("%", str(node.value), place)
            if isinstance(node, ast.BinOp):
                self.assertNotIsInstance(node.op, OPERATORS_OUT, place)
                self.assertTrue(not isinstance(node.op, ast.Pow) or isinstance(node.right, ast.Constant), place)
            if isinstance(node, ast.Compare) and any(isinstance(op, (ast.Is, ast.IsNot)) for op in node.ops):
                self.assertIn(ast.unparse(node.comparators[0]), ("None", "True", "False"), place)
            if isinstance(node, ast.ListComp):
                self.assertEqual(len(node.generators), 1, place)
                self.assertLessEqual(len(node.generators[0].ifs), 1, place)

    @on_each_file
    def test_top_of_a_module(self, path, tree):
        self.assertIsInstance(tree.body[0], ast.Expr)
        for node in tree.body[1:]:
            self.assertIsInstance(node, (ast.ImportFrom, ast.FunctionDef, ast.ClassDef, ast.Assign))
            if isinstance(node, ast.Assign):
                ast.literal_eval(node.value)
        names = names_of_the_top(tree)
        self.assertEqual(len(names), len(set(names)))

    @on_each_file
    def test_imports(self, path, tree):
        for node in nodes(tree, ast.ImportFrom):
            self.assertEqual(node.level, 0)
            self.assertRegex(node.module, r"^measurebook\.[a-z]+$")
            other = parsed(PACKAGE / (node.module.split(".")[1] + ".py"))
            drawn_there = [alias.name for part in nodes(other, ast.ImportFrom) for alias in part.names]
            for alias in node.names:
                self.assertIsNone(alias.asname)
                self.assertIn(alias.name, names_of_the_top(other))
                self.assertNotIn(alias.name, drawn_there)

    def test_no_two_files_draw_from_one_another(self):
        drawn = {path.stem: [node.module.split(".")[1] for node in nodes(parsed(path), ast.ImportFrom)] for path in files()}
        while drawn:
            free = [stem for stem in drawn if not any(other in drawn for other in drawn[stem])]
            self.assertTrue(free, f"files draw from one another: {sorted(drawn)}")
            drawn = {stem: others for stem, others in drawn.items() if stem not in free}

    @on_each_file
    def test_names(self, path, tree):
        taken = {node.name for node in nodes(tree, ast.ClassDef)}
        taken |= {alias.name for node in nodes(tree, ast.ImportFrom) for alias in node.names}
        taken |= set(dir(builtins)) | NAMES_OUT
        for node in nodes(tree, ast.FunctionDef):
            self.assertRegex(node.name, r"^([a-z][a-z0-9_]*|__init__|__eq__|__repr__|__str__|__len__)$")
            self.assertFalse(node.args.vararg or node.args.kwarg or node.args.kwonlyargs or node.args.posonlyargs)
            for name in bound_names(node):
                self.assertRegex(name, r"^[a-z][a-z0-9_]*$")
                self.assertNotIn(name, taken)
        for node in nodes(tree, ast.Name):
            self.assertTrue(node.id not in dir(builtins) or node.id in FUNCTIONS | ERRORS, node.id)

    @on_each_file
    def test_methods_and_values_of_objects(self, path, tree):
        for node in nodes(tree, ast.Attribute):
            if isinstance(node.ctx, ast.Store):
                for value in (0, "", [], {}, (), b"", set()):
                    self.assertFalse(hasattr(value, node.attr), node.attr)
        for node in nodes(tree, ast.Call):
            if isinstance(node.func, ast.Attribute):
                self.assertIn(node.func.attr, METHODS | own_methods())

    @on_each_file
    def test_lazy_walks_are_walked_on_the_spot(self, path, tree):
        walked = [node.iter for node in nodes(tree, (ast.For, ast.comprehension))]
        for node in nodes(tree, ast.Call):
            if isinstance(node.func, ast.Name) and node.func.id in WALKERS:
                walked.extend(node.args)
        for node in nodes(tree, ast.Call):
            lazy = isinstance(node.func, ast.Name) and node.func.id in LAZY
            lazy = lazy or (isinstance(node.func, ast.Attribute) and node.func.attr in LAZY_METHODS)
            if lazy:
                self.assertTrue(any(node is other for other in walked), f"line {node.lineno}")


if __name__ == "__main__":
    unittest.main()
