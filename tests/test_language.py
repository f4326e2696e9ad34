"""Rules of the language subset that can be read off the source."""

import ast
import builtins
import pathlib
import re
import unittest

FOLDER = pathlib.Path(__file__).resolve().parent.parent / "lampwalks"
FILES = {path.stem: path.read_text(encoding="utf-8") for path in sorted(FOLDER.glob("*.py"))}
TREES = {name: ast.parse(text) for name, text in FILES.items()}

LIBRARY = {
    "heapq": ("heappush", "heappop", "heapify", "heapreplace", "heappushpop"),
    "math": ("gcd", "lcm", "isqrt", "comb", "perm", "factorial"),
    "itertools": ("product", "combinations", "permutations"),
}
BUILTINS = (
    "len range enumerate zip min max sum abs sorted reversed int str bool list tuple dict set isinstance ord repr any "
    "all divmod Exception ValueError TypeError KeyError IndexError LookupError ZeroDivisionError").split()
METHODS = (
    "append clear copy count endswith extend find get index insert isalnum isalpha isascii isdigit islower isspace "
    "isupper items join keys ljust lower lstrip partition pop remove replace reverse rfind rjust rpartition rsplit "
    "rstrip setdefault split splitlines startswith strip update upper values zfill bit_length add discard").split()
OWN_METHODS = [item.name for tree in TREES.values() for node in tree.body if isinstance(node, ast.ClassDef)
               for item in node.body if isinstance(item, ast.FunctionDef)]
NODES = (
    "Module Expr Constant ImportFrom alias Assign AugAssign FunctionDef arguments arg ClassDef Return If While For "
    "Break Continue Pass Raise Assert Delete Try ExceptHandler Name Attribute Subscript Slice Call keyword Starred "
    "List Tuple Dict Set ListComp DictComp SetComp comprehension BinOp UnaryOp BoolOp Compare IfExp Lambda Load Store "
    "JoinedStr FormattedValue "
    "Del Add Sub Mult FloorDiv Mod Pow BitAnd BitOr BitXor LShift RShift USub UAdd Invert Not And Or "
    "Eq NotEq Lt LtE Gt GtE Is IsNot In NotIn").split()
WORDS = ("register mro elements open input law version_info with_traceback add_note typing enum Enum namedtuple "
         "dataclass overload contextmanager _wall _WallAttr _cold _outside _record _written_out "
         "_member_names").split()


def nodes(kind):
    """All nodes of a kind, with the names of their files."""
    return [(name, node) for name, tree in TREES.items() for node in ast.walk(tree) if isinstance(node, kind)]


def bound_names(tree):
    """All names that a file gives to something, but for imports."""
    found = []
    for node in ast.walk(tree):
        if isinstance(node, (ast.FunctionDef, ast.ClassDef)):
            found.append(node.name)
        elif isinstance(node, ast.arg):
            found.append(node.arg)
        elif isinstance(node, ast.Name) and isinstance(node.ctx, ast.Store):
            found.append(node.id)
    return found


def defined_names(tree):
    """The names of the functions, classes and values that a file defines at its module level."""
    found = []
    for node in tree.body:
        if isinstance(node, (ast.FunctionDef, ast.ClassDef)):
            found.append(node.name)
        elif isinstance(node, ast.Assign):
            found.extend(target.id for target in node.targets)
    return found


def imported(tree):
    """The pairs (module, name) that a file imports."""
    return [(node.module, alias.name) for node in ast.walk(tree) if isinstance(node, ast.ImportFrom)
            for alias in node.names]


class FilesTest(unittest.TestCase):
    def test_folder(self):
        for path in FOLDER.iterdir():
            if path.name != "__pycache__":
                self.assertRegex(path.name, r"^(__init__|[a-z][a-z0-9_]*)\.py$")
                self.assertNotIn(path.stem, dir(builtins))

    def test_sizes_and_characters(self):
        for name, text in FILES.items():
            with self.subTest(name):
                self.assertRegex(text, r"\A[ -~\n]*\Z")
                self.assertTrue(text.endswith("\n"))
                self.assertLessEqual(len(text.split("\n")) - 1, 399)
                self.assertLessEqual(max(map(len, text.split("\n"))), 120)
        for name, node in nodes(ast.FunctionDef):
            self.assertLessEqual(node.end_lineno - node.lineno + 1, 40, f"{name}.{node.name}")

    def test_words(self):
        for name, text in FILES.items():
            for word in WORDS:
                self.assertNotRegex(text, rf"\b{word}\b", name)

    def test_no_percent_sign_in_a_string(self):
        for name, node in nodes(ast.Constant):
            if isinstance(node.value, str):
                self.assertNotIn("%", node.value, name)


class ImportsTest(unittest.TestCase):
    def test_where_they_come_from(self):
        for name, tree in TREES.items():
            for module, word in imported(tree):
                if module in LIBRARY:
                    self.assertIn(word, LIBRARY[module])
                    continue
                folder, _, home = module.partition(".")
                self.assertEqual(folder, "lampwalks", name)
                self.assertIn(word, defined_names(TREES[home]), f"{name} imports {word} from {home}")

    def test_form(self):
        for name, node in nodes(ast.ImportFrom):
            self.assertEqual(node.level, 0)
            self.assertIn(node, TREES[name].body)
            self.assertTrue(all(alias.asname is None and alias.name != "*" for alias in node.names))

    def test_each_import_is_used_and_keeps_its_name(self):
        for name, tree in TREES.items():
            used = [node.id for node in ast.walk(tree) if isinstance(node, ast.Name)]
            words = [word for _, word in imported(tree)]
            self.assertEqual(len(words), len(set(words)))
            for word in words:
                self.assertIn(word, used, name)
                self.assertNotIn(word, bound_names(tree), name)

    def test_no_two_files_import_from_each_other(self):
        towards = {name: {module.partition(".")[2] for module, _ in imported(tree) if module not in LIBRARY}
                   for name, tree in TREES.items()}
        left = dict(towards)
        while left:
            free = [name for name in left if not towards[name] & set(left)]
            self.assertTrue(free, f"a circle among {sorted(left)}")
            for name in free:
                del left[name]


class CodeTest(unittest.TestCase):
    def test_statements_and_expressions(self):
        for name, node in nodes((ast.stmt, ast.expr, ast.operator, ast.cmpop)):
            self.assertIn(type(node).__name__, NODES, f"{name}, line {getattr(node, 'lineno', 0)}")

    def test_module_level(self):
        for name, tree in TREES.items():
            kinds = (ast.ImportFrom, ast.FunctionDef, ast.ClassDef, ast.Assign)
            self.assertIsNotNone(ast.get_docstring(tree), name)
            for node in tree.body[1:]:
                self.assertIsInstance(node, kinds, name)

    def test_decorators_and_annotations(self):
        for name, node in nodes(ast.FunctionDef):
            self.assertEqual(node.decorator_list, [], name)
            self.assertIsNotNone(ast.get_docstring(node) or node.name.startswith("__"), f"{name}.{node.name}")

    def test_names(self):
        for name, tree in TREES.items():
            for word in bound_names(tree):
                self.assertNotIn(word, dir(builtins), name)
                self.assertTrue(re.match(r"_?[A-Za-z][A-Za-z0-9_]*$|_$|__(init|eq)__$", word), f"{name}: {word}")

    def test_builtins(self):
        for name, tree in TREES.items():
            known = bound_names(tree) + [word for _, word in imported(tree)] + BUILTINS
            for node in ast.walk(tree):
                if isinstance(node, ast.Name):
                    self.assertIn(node.id, known, f"{name}, line {node.lineno}")

    def test_methods(self):
        for name, node in nodes(ast.Call):
            if isinstance(node.func, ast.Attribute):
                self.assertIn(node.func.attr, METHODS + OWN_METHODS, f"{name}, line {node.lineno}")

    def test_no_name_is_a_method_and_an_attribute(self):
        assigned = [node.attr for _, node in nodes(ast.Attribute) if isinstance(node.ctx, ast.Store)]
        read = [node.attr for _, node in nodes(ast.Attribute)]
        for name in OWN_METHODS:
            self.assertNotIn(name, assigned)
        for name in read:
            self.assertIn(name, METHODS + OWN_METHODS + assigned)

    def test_is_stands_beside_none(self):
        for name, node in nodes(ast.Compare):
            for sign, right in zip(node.ops, node.comparators):
                if isinstance(sign, (ast.Is, ast.IsNot)):
                    self.assertIsInstance(right, ast.Constant, f"{name}, line {node.lineno}")

    def test_no_float_and_no_set_that_is_kept(self):
        for name, node in nodes(ast.Constant):
            self.assertIn(type(node.value), (int, str, bool, bytes, type(None)), name)

    def test_errors_are_made_where_they_are_raised(self):
        classes = [node.name for node in TREES["errors"].body if isinstance(node, ast.ClassDef)]
        for name, node in nodes(ast.Raise):
            self.assertIsInstance(node.exc, ast.Call, name)
            self.assertIn(node.exc.func.id, classes, name)
