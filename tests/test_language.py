"""Holds the package's files to those rules of ../shared/LANGUAGE.md that a short look at the tree can see."""

import ast
import builtins
import pathlib
import re
import unittest

PACKAGE = pathlib.Path(__file__).resolve().parent.parent / "pieceways"

ALLOWED_NAMES = set("""
    len range enumerate zip min max sum abs sorted reversed int str bool list tuple dict set frozenset isinstance ord
    repr any all divmod Exception ValueError TypeError KeyError IndexError LookupError ZeroDivisionError
    ArithmeticError OverflowError RuntimeError NotImplementedError AttributeError StopIteration
""".split())
ALLOWED_DUNDERS = {"__init__", "__eq__", "__repr__", "__str__", "__len__", "__all__", "__version__"}
OUT_NAMES = set("""
    register mro elements open input version_info with_traceback add_note format format_map encode
""".split())
ALLOWED_METHODS = set("""
    append clear copy count endswith extend find get index insert isalnum isalpha isdigit islower isspace isupper items
    join keys ljust lower lstrip partition pop remove replace reverse rfind rjust rpartition rsplit rstrip setdefault
    split splitlines startswith strip update upper values zfill bit_length
""".split())
OUT_WORDS = re.compile(r"\b(type|typing|typing_extensions|[Ee]num|IntEnum|StrEnum|Flag|IntFlag|Generic|Protocol|ABC"
                       r"|ABCMeta|namedtuple|NamedTuple|TypedDict|TYPE_CHECKING|abstractmethod)\b"
                       r"|dataclass|overload|contextmanager")
OUT_NODES = (
    ast.Import, ast.With, ast.Match, ast.Delete, ast.Global, ast.Nonlocal, ast.Assert, ast.Yield, ast.YieldFrom,
    ast.AsyncFunctionDef, ast.AsyncFor, ast.AsyncWith, ast.Await, ast.Div, ast.MatMult, ast.SetComp, ast.DictComp,
    ast.GeneratorExp, ast.NamedExpr, ast.Starred, ast.AnnAssign,
)
FREE_METHODS = ALLOWED_METHODS | {"add", "discard"} | ALLOWED_DUNDERS
FREE_VALUES = set("count index title find get join lower upper split strip copy add".split())
PYTHONS_OWN = set()
for kind in (str, int, bool, float, list, tuple, dict, set, frozenset, bytes, bytearray):
    PYTHONS_OWN |= set(dir(kind))
WALKED = {"zip", "enumerate", "reversed", "range", "items", "keys", "values"}
WALKERS = {"list", "tuple", "dict", "sorted", "sum", "any", "all", "enumerate", "zip", "min", "max"}
KEYWORDS = {
    "sorted": {"key", "reverse"}, "min": {"key", "default"}, "max": {"key", "default"}, "sum": {"start"},
    "enumerate": {"start"}, "zip": {"strict"},
}


def files():
    return sorted(path for path in PACKAGE.rglob("*") if path.is_file() and "__pycache__" not in path.parts)


def bound_names(tree):
    for node in ast.walk(tree):
        if isinstance(node, (ast.FunctionDef, ast.ClassDef)):
            yield node.name
        elif isinstance(node, ast.Name):
            yield node.id
        elif isinstance(node, ast.arg):
            yield node.arg
        elif isinstance(node, ast.Attribute):
            yield node.attr


def called(node):
    """The name by which a call calls, of a function or of a method."""
    if isinstance(node.func, ast.Attribute):
        return node.func.attr
    return node.func.id


def imports(tree):
    return [node for node in ast.walk(tree) if isinstance(node, ast.ImportFrom)]


def file_of(module):
    return PACKAGE.parent / (module.replace(".", "/") + ".py")


def top_names(path):
    told = set()
    for node in ast.parse(path.read_text()).body:
        if isinstance(node, (ast.FunctionDef, ast.ClassDef)):
            told.add(node.name)
        elif isinstance(node, ast.Assign):
            told.add(node.targets[0].id)
    return told


def drawn_and_classes(tree):
    drawn = {name.asname or name.name for node in imports(tree) for name in node.names}
    return drawn | {node.name for node in ast.walk(tree) if isinstance(node, ast.ClassDef)}


def own_methods():
    told = set()
    for path, text, tree in parsed():
        for node in ast.walk(tree):
            if isinstance(node, ast.ClassDef):
                told |= {part.name for part in node.body if isinstance(part, ast.FunctionDef)}
    return told


def parsed():
    texts = [(path, path.read_text(encoding="utf-8")) for path in files()]
    return [(path, text, ast.parse(text)) for path, text in texts]


class Language(unittest.TestCase):
    def test_files_and_signs(self):
        for path, text, tree in parsed():
            with self.subTest(path=path.name):
                self.assertRegex(path.name, r"^[a-z0-9_]+\.py$")
                self.assertEqual([sign for sign in text if sign != "\n" and not " " <= sign <= "~"], [])
                self.assertIsNone(OUT_WORDS.search(text))

    def test_sizes(self):
        for path, text, tree in parsed():
            with self.subTest(path=path.name):
                self.assertLessEqual(len(text.splitlines()), 400)
                self.assertLessEqual(max(len(line) for line in text.splitlines()), 120)
                for node in ast.walk(tree):
                    if isinstance(node, ast.FunctionDef):
                        self.assertLessEqual(node.end_lineno - node.lineno + 1, 40, node.name)

    def test_imports_draw_from_the_defining_file(self):
        for path, text, tree in parsed():
            with self.subTest(path=path.name):
                for node in imports(tree):
                    self.assertEqual(node.level, 0)
                    self.assertTrue(node.module.startswith("pieceways."), node.module)
                    self.assertLessEqual({name.name for name in node.names}, top_names(file_of(node.module)))

    def test_no_two_files_draw_from_one_another(self):
        drawn = {path: {file_of(node.module) for node in imports(tree)} for path, text, tree in parsed()}
        while drawn:
            free = [path for path in drawn if not drawn[path] & set(drawn)]
            self.assertTrue(free, "a ring of imports")
            drawn = {path: drawn[path] for path in drawn if path not in free}

    def test_forms_that_are_out(self):
        for path, text, tree in parsed():
            with self.subTest(path=path.name):
                for node in ast.walk(tree):
                    self.assertNotIsInstance(node, OUT_NODES)
                    self.assertFalse(getattr(node, "decorator_list", []))
                    if isinstance(node, (ast.For, ast.While)):
                        self.assertEqual(node.orelse, [])
                    if isinstance(node, ast.Assign):
                        self.assertEqual(len(node.targets), 1)
                    if isinstance(node, ast.Try):
                        self.assertEqual(node.finalbody, [])
                    if isinstance(node, ast.Constant):
                        self.assertIsInstance(node.value, (int, str, bool, type(None)))

    def test_names(self):
        for path, text, tree in parsed():
            with self.subTest(path=path.name):
                for name in bound_names(tree):
                    self.assertTrue(name in ALLOWED_DUNDERS or not name.startswith("_"), name)
                    self.assertNotIn(name, OUT_NAMES)
                for node in ast.walk(tree):
                    if isinstance(node, ast.Name) and hasattr(builtins, node.id):
                        self.assertIn(node.id, ALLOWED_NAMES)
                        self.assertIsInstance(node.ctx, ast.Load)
                    if isinstance(node, ast.arg):
                        self.assertFalse(hasattr(builtins, node.arg), node.arg)

    def test_no_local_is_called_like_a_class_or_an_import(self):
        for path, text, tree in parsed():
            with self.subTest(path=path.name):
                taken = drawn_and_classes(tree)
                for node in ast.walk(tree):
                    if isinstance(node, ast.Name) and isinstance(node.ctx, ast.Store):
                        self.assertNotIn(node.id, taken)
                    if isinstance(node, ast.arg):
                        self.assertNotIn(node.arg, taken)

    def test_the_top_of_a_file(self):
        for path, text, tree in parsed():
            with self.subTest(path=path.name):
                self.assertIsNotNone(ast.get_docstring(tree))
                for node in tree.body[1:]:
                    self.assertIsInstance(node, (ast.ImportFrom, ast.FunctionDef, ast.ClassDef, ast.Assign))
                    if isinstance(node, ast.Assign):
                        ast.literal_eval(node.value)

    def test_a_call_alone_stands_by_itself(self):
        for path, text, tree in parsed():
            with self.subTest(path=path.name):
                for node in ast.walk(ast.Module(tree.body[1:], [])):
                    if isinstance(node, ast.Expr):
                        self.assertIsInstance(node.value, ast.Call, node.lineno)

    def test_is_stands_beside_none_true_and_false(self):
        for path, text, tree in parsed():
            with self.subTest(path=path.name):
                for node in ast.walk(tree):
                    if isinstance(node, ast.Compare) and isinstance(node.ops[0], (ast.Is, ast.IsNot)):
                        self.assertIn(ast.unparse(node.comparators[0]), ["None", "True", "False"])

    def test_methods_are_those_allowed_or_the_package_s_own(self):
        allowed = ALLOWED_METHODS | own_methods()
        for path, text, tree in parsed():
            with self.subTest(path=path.name):
                for node in ast.walk(tree):
                    if isinstance(node, ast.Call) and isinstance(node.func, ast.Attribute):
                        self.assertIn(node.func.attr, allowed)

    def test_no_name_is_a_method_and_a_value(self):
        values = set()
        for path, text, tree in parsed():
            for node in ast.walk(tree):
                if isinstance(node, ast.Attribute) and isinstance(node.ctx, ast.Store):
                    values.add(node.attr)
        self.assertEqual(own_methods() & values, set())

    def test_methods_and_values_bear_free_names(self):
        for path, text, tree in parsed():
            for node in ast.walk(tree):
                if isinstance(node, ast.Attribute) and isinstance(node.ctx, ast.Store):
                    self.assertNotIn(node.attr, PYTHONS_OWN - FREE_VALUES)
        self.assertEqual(own_methods() & PYTHONS_OWN - FREE_METHODS, set())

    def test_walked_at_once(self):
        for path, text, tree in parsed():
            for node in ast.walk(tree):
                held = []
                if isinstance(node, (ast.For, ast.comprehension)):
                    held = [node.iter]
                elif isinstance(node, ast.Call) and called(node) in WALKERS:
                    held = node.args[:1]
                for part in held:
                    part.walked_here = True
            for node in ast.walk(tree):
                if isinstance(node, ast.Call) and called(node) in WALKED:
                    self.assertTrue(getattr(node, "walked_here", False), (path.name, node.lineno))

    def test_sets_are_not_used(self):
        for path, text, tree in parsed():
            for node in ast.walk(tree):
                self.assertNotIsInstance(node, ast.Set)
                self.assertFalse(isinstance(node, ast.Name) and node.id in ["set", "frozenset", "chr"])

    def test_keywords(self):
        own = set().union(*[top_names(path) for path in files()])
        for path, text, tree in parsed():
            for node in ast.walk(tree):
                if isinstance(node, ast.Call) and node.keywords and called(node) not in own:
                    self.assertLessEqual({word.arg for word in node.keywords}, KEYWORDS.get(called(node), set()))

    def test_texts_and_comprehensions(self):
        for path, text, tree in parsed():
            for node in ast.walk(tree):
                if isinstance(node, ast.Constant) and isinstance(node.value, str):
                    self.assertNotIn("%", node.value)
                if isinstance(node, ast.FormattedValue):
                    self.assertIsInstance(node.value, ast.Name)
                    self.assertIsNone(node.format_spec)
                if isinstance(node, ast.ListComp):
                    self.assertEqual(len(node.generators), 1)
                    self.assertLessEqual(len(node.generators[0].ifs), 1)

    def test_own_errors_alone_are_taken_and_raised(self):
        own = top_names(PACKAGE / "errors.py")
        for path, text, tree in parsed():
            for node in ast.walk(tree):
                if isinstance(node, ast.ExceptHandler):
                    self.assertIn(ast.unparse(node.type), own)
                if isinstance(node, ast.Raise):
                    self.assertIn(called(node.exc), own)

    def test_targets_are_plain(self):
        for path, text, tree in parsed():
            for node in ast.walk(tree):
                if isinstance(node, ast.Assign):
                    self.assertIsInstance(node.targets[0], (ast.Name, ast.Attribute, ast.Subscript))

    def test_values_of_a_file_s_top_are_no_lists_and_no_dicts(self):
        for path, text, tree in parsed():
            for node in tree.body:
                if isinstance(node, ast.Assign):
                    self.assertIsInstance(node.value, (ast.Constant, ast.Tuple))

    def test_classes_are_called_or_named_as_a_kind(self):
        kinds = {node.name for path, text, tree in parsed() for node in tree.body if isinstance(node, ast.ClassDef)}
        for path, text, tree in parsed():
            for node in ast.walk(tree):
                if isinstance(node, ast.Call):
                    node.func.as_kind = True
                    if called(node) == "isinstance":
                        node.args[1].as_kind = True
                elif isinstance(node, ast.ClassDef):
                    for base in node.bases:
                        base.as_kind = True
                elif isinstance(node, ast.ExceptHandler):
                    node.type.as_kind = True
            for node in ast.walk(tree):
                if isinstance(node, ast.Name) and node.id in kinds:
                    self.assertTrue(getattr(node, "as_kind", False), (path.name, node.lineno))


if __name__ == "__main__":
    unittest.main()
