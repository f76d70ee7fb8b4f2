"""Holds the package's files to the rules of LANGUAGE.md that can be seen in a file's tree."""

import ast
import builtins
import functools
import pathlib
import re
import unittest

PACKAGE = pathlib.Path(__file__).resolve().parent.parent / "countgen"
OWN_NAMES = set("""len range enumerate zip min max sum abs sorted reversed int str bool list tuple dict set frozenset
isinstance ord repr any all divmod Exception ValueError TypeError KeyError IndexError LookupError ZeroDivisionError
ArithmeticError OverflowError RuntimeError NotImplementedError AttributeError StopIteration""".split())
METHODS = set("""append clear copy count endswith extend find get index insert isalnum isalpha isdigit islower isspace
isupper items join keys ljust lower lstrip partition pop remove replace reverse rfind rjust rpartition rsplit rstrip
setdefault split splitlines startswith strip update upper values zfill bit_length""".split())
WORDS_OUT = set("""type typing typing_extensions enum Enum IntEnum StrEnum Flag IntFlag Generic Protocol ABC ABCMeta
namedtuple NamedTuple TypedDict TYPE_CHECKING abstractmethod""".split())
NAMES_OUT = set("""register mro elements open input version_info with_traceback add_note attrgetter breakpoint builtins
compile copyright credits delattr dir eval exec exit gc getattr globals hasattr help id importlib license locals
methodcaller os quit setattr super type vars sys chr print""".split())
WALKED = set("zip enumerate reversed range items keys values".split())
WALKERS = set("list tuple dict sorted sum any all enumerate zip".split())
KEYWORDS = {
    "sorted": {"key", "reverse"}, "min": {"key", "default"}, "max": {"key", "default"}, "sum": {"start"},
    "enumerate": {"start"}, "zip": {"strict"}}
NODES_IN = (
    ast.Module, ast.ImportFrom, ast.alias, ast.FunctionDef, ast.ClassDef, ast.arguments, ast.arg, ast.Lambda,
    ast.Assign, ast.AugAssign, ast.If, ast.While, ast.For, ast.Return, ast.Break, ast.Continue, ast.Pass, ast.Raise,
    ast.Try, ast.ExceptHandler, ast.Expr, ast.Constant, ast.List, ast.Tuple, ast.Dict, ast.Set, ast.BinOp, ast.UnaryOp,
    ast.Compare, ast.BoolOp, ast.IfExp, ast.Call, ast.keyword, ast.Attribute, ast.Subscript, ast.Slice, ast.ListComp,
    ast.comprehension, ast.JoinedStr, ast.FormattedValue, ast.Name, ast.expr_context, ast.operator, ast.unaryop,
    ast.boolop, ast.cmpop)


def files():
    return sorted(PACKAGE.glob("*.py"))


@functools.cache
def tree_of(path):
    return ast.parse(path.read_text(encoding="utf-8"))


def nodes(path, *kinds):
    return [node for node in ast.walk(tree_of(path)) if isinstance(node, kinds)]


def names_at_top(tree):
    names = []
    for node in tree.body:
        if isinstance(node, (ast.FunctionDef, ast.ClassDef)):
            names.append(node.name)
        elif isinstance(node, ast.Assign):
            names.extend([target.id for target in node.targets])
    return names


def names_imported(tree):
    return [alias.name for node in tree.body if isinstance(node, ast.ImportFrom) for alias in node.names]


def names_bound_within(path):
    stored = [node.id for node in nodes(path, ast.Name) if isinstance(node.ctx, ast.Store)]
    return stored + [node.arg for node in nodes(path, ast.arg)]


def own_values():
    return {node.attr for path in files() for node in nodes(path, ast.Attribute) if isinstance(node.ctx, ast.Store)}


def own_methods():
    return {
        inner.name for path in files() for node in nodes(path, ast.ClassDef)
        for inner in node.body if isinstance(inner, ast.FunctionDef)}


def parents_of(path):
    return [(node, inner) for node in ast.walk(tree_of(path)) for inner in ast.iter_child_nodes(node)]


def called(node):
    if not isinstance(node, ast.Call):
        return None
    return getattr(node.func, "id", getattr(node.func, "attr", None))


def is_walked(parent, node):
    if isinstance(parent, (ast.For, ast.comprehension)):
        return parent.iter is node
    if called(parent) in WALKERS:
        return parent.args[0] is node or called(parent) == "zip"
    return called(parent) in ("min", "max", "join") and len(parent.args) == 1


def is_plain(node):
    """Written out: a number, a text, a truth or None, or a tuple of such."""
    if isinstance(node, ast.Tuple):
        return all(is_plain(each) for each in node.elts)
    return isinstance(node, ast.Constant)


class LanguageTest(unittest.TestCase):
    def test_files_are_plain(self):
        for path in PACKAGE.iterdir():
            if path.name != "__pycache__":
                self.assertRegex(path.name, r"\A([a-z][a-z0-9_]*|__init__)\.py\Z")
                self.assertNotIn(path.stem, dir(builtins))

    def test_signs_and_sizes(self):
        for path in files():
            with self.subTest(path.name):
                text = path.read_text(encoding="utf-8")
                self.assertRegex(text, r"\A[ -~\n]+\Z")
                self.assertLessEqual(text.count("\n"), 400)
                self.assertLessEqual(max([len(line) for line in text.split("\n")]), 120)
                for node in nodes(path, ast.FunctionDef):
                    self.assertLessEqual(node.end_lineno - node.lineno + 1, 40, node.name)

    def test_words(self):
        for path in files():
            with self.subTest(path.name):
                text = path.read_text(encoding="utf-8")
                self.assertEqual(WORDS_OUT & set(re.findall(r"\w+", text)), set())
                self.assertNotRegex(text, "dataclass|overload|contextmanager")

    def test_nodes(self):
        for path in files():
            with self.subTest(path.name):
                for node in ast.walk(tree_of(path)):
                    self.assertIsInstance(node, NODES_IN, getattr(node, "lineno", None))
                    self.assertNotIsInstance(node, (ast.Div, ast.MatMult))
                    if isinstance(node, ast.Assign):
                        self.assertEqual(len(node.targets), 1)
                    if isinstance(node, (ast.While, ast.For)):
                        self.assertEqual(node.orelse, [])
                    if isinstance(node, ast.ListComp):
                        self.assertEqual(len(node.generators), 1)
                        self.assertLessEqual(len(node.generators[0].ifs), 1)
                    if isinstance(node, ast.BinOp) and isinstance(node.op, ast.Pow):
                        self.assertIsInstance(node.right, ast.Constant)

    def test_tops(self):
        for path in files():
            with self.subTest(path.name):
                tree = tree_of(path)
                self.assertIsInstance(ast.get_docstring(tree), str)
                for node in tree.body[1:]:
                    self.assertIsInstance(node, (ast.ImportFrom, ast.FunctionDef, ast.ClassDef, ast.Assign))
                    if isinstance(node, ast.Assign):
                        self.assertTrue(is_plain(node.value), node.lineno)
                names = names_at_top(tree) + names_imported(tree)
                self.assertEqual(len(names), len(set(names)))

    def test_defs_and_classes(self):
        for path in files():
            with self.subTest(path.name):
                for node in nodes(path, ast.FunctionDef, ast.ClassDef):
                    self.assertEqual(node.decorator_list, [])
                for node in nodes(path, ast.arguments):
                    self.assertEqual((node.vararg, node.kwarg, node.kwonlyargs, node.posonlyargs), (None, None, [], []))
                for node in nodes(path, ast.ClassDef):
                    self.assertLessEqual(len(node.bases), 1)
                    self.assertEqual(node.keywords, [])
                    for inner in node.body:
                        self.assertIsInstance(inner, (ast.FunctionDef, ast.Pass))

    def test_imports(self):
        drawn = {}
        for path in files():
            with self.subTest(path.name):
                drawn[path.stem] = set()
                for node in nodes(path, ast.ImportFrom):
                    self.assertRegex(node.module, r"\Acountgen\.[a-z_]+\Z")
                    self.assertEqual(node.level, 0)
                    source = PACKAGE / (node.module.split(".")[1] + ".py")
                    drawn[path.stem].update([source.stem, "__init__"])
                    for alias in node.names:
                        self.assertIsNone(alias.asname)
                        self.assertIn(alias.name, names_at_top(tree_of(source)))
        while drawn:
            grounded = [name for name in drawn if not drawn[name] & set(drawn)]
            self.assertNotEqual(grounded, [], "files draw from one another")
            for name in grounded:
                del drawn[name]

    def test_names(self):
        for path in files():
            with self.subTest(path.name):
                tree = tree_of(path)
                known = set(names_at_top(tree) + names_imported(tree))
                classes = {node.name for node in nodes(path, ast.ClassDef)}
                bound = names_bound_within(path)
                for name in bound + names_at_top(tree):
                    self.assertRegex(name, r"\A[A-Za-z][A-Za-z0-9_]*\Z")
                    self.assertNotIn(name, dir(builtins))
                    self.assertNotIn(name, NAMES_OUT)
                self.assertEqual(set(bound) & (classes | set(names_imported(tree))), set())
                for node in nodes(path, ast.Name):
                    self.assertIn(node.id, known | OWN_NAMES | set(bound))

    def test_attributes(self):
        allowed = METHODS | own_methods() | own_values()
        for path in files():
            with self.subTest(path.name):
                for node in nodes(path, ast.Attribute):
                    self.assertIn(node.attr, allowed)
                    self.assertNotIn(node.attr, NAMES_OUT | {"format", "format_map", "args"})

    def test_is_stands_beside_none_and_truths_alone(self):
        for path in files():
            with self.subTest(path.name):
                for node in nodes(path, ast.Compare):
                    for operator, right in zip(node.ops, node.comparators):
                        if isinstance(operator, (ast.Is, ast.IsNot)):
                            self.assertIsInstance(right, ast.Constant)
                            self.assertIn(right.value, (None, True, False))

    def test_what_is_walked_is_not_kept(self):
        for path in files():
            with self.subTest(path.name):
                for parent, node in parents_of(path):
                    if called(node) in WALKED:
                        self.assertTrue(is_walked(parent, node), node.lineno)

    def test_methods_and_sets_stand_where_they_are_called(self):
        for path in files():
            with self.subTest(path.name):
                for parent, node in parents_of(path):
                    if isinstance(node, ast.Attribute) and node.attr in METHODS - own_values():
                        self.assertIs(getattr(parent, "func", None), node, node.lineno)
                    if isinstance(node, ast.Name) and node.id in OWN_NAMES and not node.id.endswith("Error"):
                        self.assertTrue(getattr(parent, "func", None) is node or self.is_asked_kind(path, node))
                    if called(node) == "set":
                        self.assertTrue(called(parent) in ("sorted", "len") or isinstance(parent, ast.Compare))

    def is_asked_kind(self, path, name):
        asked = [node.args[1] for node in nodes(path, ast.Call) if called(node) == "isinstance"]
        places = [(inner.lineno, inner.col_offset) for each in asked for inner in ast.walk(each) if hasattr(inner, "id")]
        return (name.lineno, name.col_offset) in places

    def test_keywords(self):
        for path in files():
            with self.subTest(path.name):
                for node in nodes(path, ast.Call):
                    if called(node) in OWN_NAMES | METHODS:
                        self.assertLessEqual({each.arg for each in node.keywords}, KEYWORDS.get(called(node), set()))

    def test_one_plain_target(self):
        for path in files():
            with self.subTest(path.name):
                for node in nodes(path, ast.Assign):
                    self.assertIsInstance(node.targets[0], (ast.Name, ast.Attribute, ast.Subscript), node.lineno)

    def test_no_name_is_a_method_and_a_value(self):
        self.assertEqual(own_methods() & own_values(), set())
        taken = {name for kind in (str, int, list, tuple, dict, set, bytes) for name in dir(kind)}
        self.assertEqual(own_methods() & taken, {"__init__"})
        self.assertLessEqual(own_values() & taken, {"count"})

    def test_constants(self):
        for path in files():
            with self.subTest(path.name):
                for node in nodes(path, ast.Constant):
                    self.assertIsInstance(node.value, (int, str, bool, type(None)))
                    if isinstance(node.value, str):
                        self.assertNotIn("%", node.value)


if __name__ == "__main__":
    unittest.main()
