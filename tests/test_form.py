"""The part of Python that the package keeps to, as far as it can be seen in the text of its files."""

import ast
import builtins
import pathlib
import re
import unittest

PACKAGE = pathlib.Path(__file__).resolve().parent.parent / "spentonce"
FILES = sorted(PACKAGE.rglob("*.py"))

NODES = """
Module FunctionDef ClassDef arguments arg Return Assign AugAssign For While If Raise Try ExceptHandler ImportFrom
alias Expr Pass Break Continue BoolOp And Or BinOp UnaryOp Not USub IfExp Dict Set ListComp comprehension Compare
Call keyword JoinedStr FormattedValue Constant Attribute Subscript Name List Tuple Slice Lambda Load Store
Add Sub Mult FloorDiv Mod Pow BitAnd BitOr BitXor LShift RShift Invert
Eq NotEq Lt LtE Gt GtE Is IsNot In NotIn
""".split()

BUILTINS = """
len range enumerate zip min max sum abs sorted reversed int str bool list tuple dict set frozenset isinstance ord
repr any all divmod Exception ValueError TypeError KeyError IndexError LookupError ZeroDivisionError ArithmeticError
OverflowError RuntimeError NotImplementedError AttributeError StopIteration
""".split()

METHODS = """
append clear copy count endswith extend find get index insert isalnum isalpha isdigit islower isspace isupper items
join keys ljust lower lstrip partition pop remove replace reverse rfind rjust rpartition rsplit rstrip setdefault
split splitlines startswith strip update upper values zfill bit_length
""".split()

WORDS_NOWHERE = re.compile(
    r"\b(type|typing|typing_extensions|enum|Enum|IntEnum|StrEnum|Flag|IntFlag|Generic|Protocol|ABC|ABCMeta|namedtuple"
    r"|NamedTuple|TypedDict|TYPE_CHECKING|abstractmethod)\b|dataclass|overload|contextmanager"
)

NAMES_NOT_USED = """
register mro elements open input version_info with_traceback add_note attrgetter breakpoint builtins compile
copyright credits delattr dir eval exec exit gc getattr globals hasattr help id importlib license locals
methodcaller os quit setattr super vars sys format format_map
""".split()

# What is walked where it stands, and what may take it.
WALKED = "zip enumerate reversed range items keys values".split()
WALKERS = "list tuple dict sorted sum any all enumerate zip min max join".split()

KEYWORDS = {
    "sorted": ("key", "reverse"), "min": ("key", "default"), "max": ("key", "default"),
    "sum": ("start",), "enumerate": ("start",), "zip": ("strict",),
}

# Values of objects that may be called like a method of Python's own values.
VALUES = "count index title find get join lower upper split strip copy add".split()
PYTHONS_OWN = [name for kind in (str, int, list, dict, set, frozenset, bytes, tuple) for name in dir(kind)]


def parsed(file):
    return ast.parse(file.read_text(encoding="utf-8"))


def methods_of(node):
    return [part.name for part in node.body if isinstance(part, ast.FunctionDef)]


def own_methods():
    found = ["__init__"]
    for where, node in each_node():
        if isinstance(node, ast.ClassDef):
            found += methods_of(node)
    return found


def own_values():
    """Every name that is given a value behind a dot."""
    found = []
    for where, node in each_node():
        if isinstance(node, ast.Attribute) and isinstance(node.ctx, ast.Store):
            found.append(node.attr)
    return found


def top_names(tree):
    """What is bound at a file's top."""
    found = []
    for node in tree.body:
        if isinstance(node, (ast.FunctionDef, ast.ClassDef)):
            found.append(node.name)
        elif isinstance(node, ast.ImportFrom):
            found += [part.asname or part.name for part in node.names]
        elif isinstance(node, ast.Assign):
            found += [target.id for target in node.targets]
    return found


def called(node):
    """The name by which a call calls, without what stands ahead of its dot."""
    if not isinstance(node, ast.Call):
        return None
    return node.func.attr if isinstance(node.func, ast.Attribute) else getattr(node.func, "id", None)


def each_with_parent():
    for where, parent in each_node():
        for node in ast.iter_child_nodes(parent):
            yield f"{where}: {ast.unparse(node)}", node, parent


def bound_names(tree):
    """Every name that is given a value: defs, classes, imports, parameters, locals."""
    for node in ast.walk(tree):
        if isinstance(node, (ast.FunctionDef, ast.ClassDef)):
            yield node.name
        elif isinstance(node, ast.alias):
            yield node.asname or node.name
        elif isinstance(node, ast.arg):
            yield node.arg
        elif isinstance(node, ast.Name) and isinstance(node.ctx, ast.Store):
            yield node.id
        elif isinstance(node, ast.ExceptHandler) and node.name:
            yield node.name


def is_small_power(node):
    exponent = node.right
    return isinstance(exponent, ast.Constant) and isinstance(exponent.value, int) and 0 <= exponent.value <= 64


def each_node():
    for file in FILES:
        for node in ast.walk(parsed(file)):
            yield f"{file.name}:{getattr(node, 'lineno', 0)}", node


class FormTest(unittest.TestCase):
    def test_files(self):
        self.assertIn(PACKAGE / "__init__.py", FILES)
        for path in PACKAGE.rglob("*"):
            if "__pycache__" not in path.parts:
                self.assertRegex(path.name, r"^[a-z_][a-z0-9_]*\.py$")

    def test_lines(self):
        for file in FILES:
            text = file.read_text(encoding="utf-8")
            self.assertRegex(text, r"\A[ -~\n]*\Z", file.name)
            self.assertIsNone(WORDS_NOWHERE.search(text), file.name)
            lines = text.split("\n")
            self.assertLessEqual(len(lines), 400, file.name)
            self.assertLessEqual(max([len(line) for line in lines]), 120, file.name)

    def test_nodes(self):
        for where, node in each_node():
            self.assertIn(node.__class__.__name__, NODES, where)

    def test_functions(self):
        for where, node in each_node():
            if isinstance(node, ast.FunctionDef):
                self.assertEqual(node.decorator_list, [], where)
                self.assertLessEqual(node.end_lineno - node.lineno + 1, 40, where)
                rare = (node.args.vararg, node.args.kwarg, node.args.kwonlyargs, node.args.posonlyargs)
                self.assertEqual(rare, (None, None, [], []), where)

    def test_classes(self):
        for where, node in each_node():
            if isinstance(node, ast.ClassDef):
                self.assertEqual(node.decorator_list + node.keywords, [], where)
                self.assertLessEqual(len(node.bases), 1, where)
                body = node.body[1:] if ast.get_docstring(node) else node.body
                for part in body:
                    self.assertIsInstance(part, (ast.FunctionDef, ast.Pass), where)

    def test_statements(self):
        for where, node in each_node():
            if isinstance(node, ast.Assign):
                self.assertEqual(len(node.targets), 1, where)
            if isinstance(node, (ast.For, ast.While)):
                self.assertEqual(node.orelse, [], where)
            if isinstance(node, ast.Try):
                self.assertEqual(node.finalbody, [], where)
            if isinstance(node, ast.ExceptHandler):
                self.assertIsInstance(node.type, (ast.Name, ast.Tuple), where)
            if isinstance(node, ast.ImportFrom):
                self.assertRegex(node.module, r"^(spentonce\.[a-z_.]+|__future__)$", where)
                self.assertEqual(node.level, 0, where)
            if isinstance(node, ast.ListComp):
                self.assertEqual(len(node.generators), 1, where)
                self.assertLessEqual(len(node.generators[0].ifs), 1, where)

    def test_values(self):
        for where, node in each_node():
            if isinstance(node, ast.Constant):
                self.assertIsInstance(node.value, (int, str, bool, type(None)), where)
                self.assertNotIn("%", str(node.value), where)
            if isinstance(node, ast.BinOp) and isinstance(node.op, ast.Pow):
                self.assertTrue(is_small_power(node), where)
            if isinstance(node, ast.Compare):
                for op, right in zip(node.ops, node.comparators):
                    if isinstance(op, (ast.Is, ast.IsNot)):
                        self.assertIn(ast.unparse(right), ("None", "True", "False"), where)

    def test_names(self):
        for file in FILES:
            tree = parsed(file)
            bound = list(bound_names(tree))
            for name in bound:
                with self.subTest(file=file.name, name=name):
                    self.assertNotIn(name, vars(builtins))
                    self.assertRegex(name, r"^([A-Za-z][A-Za-z0-9_]*|__init__|__eq__|__repr__|__str__|__len__)$")
                    self.assertNotIn(name, NAMES_NOT_USED)
            for node in ast.walk(tree):
                if isinstance(node, ast.Name):
                    with self.subTest(file=file.name, name=node.id):
                        self.assertIn(node.id, bound + BUILTINS)

    def test_attributes(self):
        allowed = METHODS + own_methods()
        for file in FILES:
            for node in ast.walk(parsed(file)):
                if isinstance(node, ast.Call) and isinstance(node.func, ast.Attribute):
                    with self.subTest(file=file.name, line=node.lineno):
                        self.assertIn(node.func.attr, allowed)
                if isinstance(node, ast.Attribute):
                    with self.subTest(file=file.name, line=node.lineno):
                        self.assertNotIn(node.attr, NAMES_NOT_USED)

    def test_each_name_once(self):
        for file in FILES:
            tree = parsed(file)
            tops = top_names(tree)
            self.assertEqual(len(set(tops)), len(tops), file.name)
            drawn = [node for node in tree.body if isinstance(node, (ast.ImportFrom, ast.ClassDef))]
            taken = top_names(ast.Module(drawn, []))
            for part in ast.walk(tree):
                if isinstance(part, (ast.FunctionDef, ast.Lambda)):
                    for name in bound_names(ast.Module(part.body, []) if isinstance(part.body, list) else part):
                        self.assertNotIn(name, taken, f"{file.name}:{part.lineno}")
                    for parameter in part.args.args:
                        self.assertNotIn(parameter.arg, taken, f"{file.name}:{part.lineno}")
            for node in ast.walk(tree):
                if isinstance(node, ast.ClassDef):
                    self.assertIn(node, tree.body, file.name)
                    self.assertEqual(len(set(methods_of(node))), len(methods_of(node)), node.name)

    def test_own_values(self):
        methods = own_methods()
        for name in own_values():
            with self.subTest(name):
                self.assertNotIn(name, methods)
                self.assertTrue(name in VALUES or name not in PYTHONS_OWN)
        for name in methods:
            with self.subTest(name):
                self.assertTrue(name in METHODS + ["add", "discard", "__init__"] or name not in PYTHONS_OWN)

    def test_methods_with_two_underscores(self):
        for where, node in each_node():
            if isinstance(node, ast.FunctionDef) and node.name.startswith("__"):
                self.assertEqual(node.name, "__init__", where)
                for part in ast.walk(node):
                    self.assertFalse(isinstance(part, ast.Return) and part.value is not None, where)

    def test_annotations(self):
        for where, node in each_node():
            if isinstance(node, ast.FunctionDef):
                self.assertIsNone(node.returns, where)
            if isinstance(node, ast.arg):
                self.assertIsNone(node.annotation, where)

    def test_keywords(self):
        for where, node in each_node():
            if isinstance(node, ast.Call) and (called(node) in BUILTINS or called(node) in METHODS):
                for part in node.keywords:
                    self.assertIn(part.arg, KEYWORDS.get(called(node), ()), where)

    def test_walked_at_once(self):
        for where, node, parent in each_with_parent():
            if called(node) in WALKED:
                walks = isinstance(parent, (ast.For, ast.comprehension)) and parent.iter == node
                self.assertTrue(walks or (called(parent) in WALKERS and node in parent.args), where)

    def test_sets(self):
        for where, node, parent in each_with_parent():
            if isinstance(node, (ast.Set, ast.SetComp)) or called(node) in ("set", "frozenset"):
                self.assertTrue(isinstance(parent, ast.Compare) or called(parent) in ("sorted", "len"), where)

    def test_python_writes_no_number_in_an_error(self):
        # It refuses to write very long ones, and then another error would come out.
        for where, node in each_node():
            if isinstance(node, ast.Raise):
                for part in ast.walk(node):
                    if isinstance(part, ast.FormattedValue):
                        self.assertIn(ast.unparse(part.value), ("word", "fault"), where)

    def test_errors_that_are_taken(self):
        own = [node.name for where, node in each_node() if isinstance(node, ast.ClassDef)]
        for where, node in each_node():
            if isinstance(node, ast.ExceptHandler):
                self.assertIn(ast.unparse(node.type), own + ["KeyError", "ZeroDivisionError", "StopIteration"], where)
            if isinstance(node, ast.Raise):
                self.assertIsInstance(node.exc, ast.Call, where)
                self.assertIn(called(node.exc), own, where)

    def test_lists_and_dicts_at_a_file_s_top(self):
        for file in FILES:
            for node in parsed(file).body:
                if isinstance(node, ast.Assign):
                    inner = [part for part in ast.walk(node.value) if part != node.value]
                    for part in inner:
                        self.assertNotIsInstance(part, (ast.List, ast.Dict, ast.Call), file.name)

    def test_no_two_files_draw_from_one_another(self):
        drawn = {}
        for file in FILES:
            rows = [node for node in ast.walk(parsed(file)) if isinstance(node, ast.ImportFrom)]
            drawn[file.stem] = [row.module.split(".")[-1] for row in rows if row.module != "__future__"]
        while drawn:
            free = [name for name in drawn if not any([other in drawn for other in drawn[name]])]
            self.assertTrue(free, drawn)
            for name in free:
                del drawn[name]


if __name__ == "__main__":
    unittest.main()
