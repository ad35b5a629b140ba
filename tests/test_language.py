"""Holds the package against those rules of the language that are easily seen in its tree, by far not all of them."""

import ast
import builtins
import pathlib
import re
import unittest

PACKAGE = pathlib.Path(__file__).resolve().parent.parent / "twainkeep"

BUILTINS = set("""len range enumerate zip min max sum abs sorted reversed int str bool list tuple dict set frozenset
    isinstance ord repr any all divmod Exception ValueError TypeError KeyError IndexError LookupError
    ZeroDivisionError ArithmeticError OverflowError RuntimeError NotImplementedError AttributeError
    StopIteration""".split())

METHODS = set("""append clear copy count endswith extend find get index insert isalnum isalpha isdigit islower isspace
    isupper items join keys ljust lower lstrip partition pop remove replace reverse rfind rjust rpartition rsplit
    rstrip setdefault split splitlines startswith strip update upper values zfill bit_length""".split())

VALUES = set("count index title find get join lower upper split strip copy add".split())

TAKEN = {name for kind in (str, int, float, list, tuple, dict, set, frozenset, bytes, bytearray) for name in dir(kind)}

UNDERSCORED = {"__init__", "__eq__", "__repr__", "__str__", "__len__"}

WORDS_NOWHERE = re.compile(r"\b(type|typing|typing_extensions|enum|Enum|IntEnum|StrEnum|Flag|IntFlag|Generic|Protocol|"
                           r"ABC|ABCMeta|namedtuple|NamedTuple|TypedDict|TYPE_CHECKING|abstractmethod)\b|"
                           r"dataclass|overload|contextmanager")

NAMES_NOWHERE = {"register", "mro", "elements", "open", "input", "version_info", "with_traceback", "add_note",
                 "format", "format_map"}

NODES = (
    ast.Module, ast.Import, ast.ImportFrom, ast.alias, ast.FunctionDef, ast.arguments, ast.arg, ast.ClassDef,
    ast.Assign, ast.AugAssign, ast.If, ast.While, ast.For, ast.Return, ast.Break, ast.Continue, ast.Pass, ast.Raise,
    ast.Try, ast.ExceptHandler, ast.Expr, ast.Lambda, ast.Constant, ast.Name, ast.List, ast.Tuple, ast.Dict, ast.Set,
    ast.BinOp, ast.UnaryOp, ast.BoolOp, ast.Compare, ast.IfExp, ast.Call, ast.keyword, ast.Attribute, ast.Subscript,
    ast.Slice, ast.ListComp, ast.comprehension, ast.JoinedStr, ast.FormattedValue, ast.expr_context, ast.boolop,
    ast.operator, ast.unaryop, ast.cmpop)

OPERATORS_OUT = (ast.Div, ast.MatMult)

PLAIN_VALUES = (ast.Constant, ast.Name, ast.List, ast.Tuple, ast.Dict, ast.UnaryOp, ast.USub, ast.Load)

KEYWORDS = {"sorted": ("key", "reverse"), "min": ("key", "default"), "max": ("key", "default"), "sum": ("start",),
            "enumerate": ("start",), "zip": ("strict",)}

WALKED = ("zip", "enumerate", "reversed", "range", "items", "keys", "values")

WALKERS = ("list", "tuple", "dict", "sorted", "sum", "any", "all", "enumerate", "zip", "min", "max", "join")


def package_files():
    return sorted(PACKAGE.rglob("*.py"))


def tree_of(path):
    return ast.parse(path.read_text(encoding="utf-8"))


def drawn_from(tree):
    return [node.module.split(".")[1] for node in tree.body if isinstance(node, ast.ImportFrom)]


def own_methods():
    found = set(UNDERSCORED)
    for path in package_files():
        for node in ast.walk(tree_of(path)):
            if isinstance(node, ast.ClassDef):
                found.update(part.name for part in node.body if isinstance(part, ast.FunctionDef))
    return found


def called(node):
    """The name by which a call calls, be it a function's or a method's."""
    return getattr(node.func, "id", getattr(node.func, "attr", None)) if isinstance(node, ast.Call) else None


def with_parents(tree):
    for parent in ast.walk(tree):
        for node in ast.iter_child_nodes(parent):
            node.above = parent
    return tree


class FilesTest(unittest.TestCase):
    def test_files_and_their_names(self):
        found = [path for path in PACKAGE.rglob("*") if "__pycache__" not in path.parts]
        self.assertIn(PACKAGE / "__init__.py", found)
        for path in found:
            self.assertRegex(path.name, r"^([a-z][a-z0-9_]*|__init__|__main__)\.py$")
            self.assertNotIn(path.stem, dir(builtins))
            self.assertNotRegex(path.stem, r"^(test|tests|testing|test_.*|site|conftest|.*customize)$")

    def test_signs_and_lengths(self):
        for path in package_files():
            rows = path.read_bytes().decode("ascii").split("\n")
            self.assertLessEqual(len(rows), 401, path.name)
            for number, row in enumerate(rows, 1):
                self.assertRegex(row, r"^[ -~]{0,120}\Z", (path.name, number))
                self.assertIsNone(WORDS_NOWHERE.search(row), (path.name, number))

    def test_imports(self):
        for path in package_files():
            for node in tree_of(path).body:
                self.assertNotIsInstance(node, ast.Import, path.name)
                if isinstance(node, ast.ImportFrom):
                    self.assertEqual((node.level, node.module.split(".")[0]), (0, "twainkeep"), path.name)
                    source = tree_of(PACKAGE / (node.module.split(".")[1] + ".py"))
                    for alias in node.names:
                        self.assertIn(alias.name, self.bound_by(source), path.name)

    def bound_by(self, tree):
        names = [node.name for node in tree.body if isinstance(node, (ast.FunctionDef, ast.ClassDef))]
        for node in tree.body:
            if isinstance(node, ast.Assign):
                names.extend(target.id for target in node.targets)
        return names

    def test_no_two_files_draw_from_one_another(self):
        drawn = {path.stem: drawn_from(tree_of(path)) for path in package_files()}
        while drawn:
            free = [name for name, sources in drawn.items() if not any(source in drawn for source in sources)]
            self.assertTrue(free, drawn)
            drawn = {name: sources for name, sources in drawn.items() if name not in free}


class FormsTest(unittest.TestCase):
    def each_node(self, *kinds):
        for path in package_files():
            for node in ast.walk(tree_of(path)):
                if isinstance(node, kinds):
                    yield node, (path.name, getattr(node, "lineno", 0))

    def test_the_kinds_of_nodes(self):
        for node, where in self.each_node(ast.AST):
            self.assertIsInstance(node, NODES, where)
            self.assertNotIsInstance(node, OPERATORS_OUT, where)

    def test_statements(self):
        for node, where in self.each_node(ast.For, ast.While):
            self.assertEqual(node.orelse, [], where)
        for node, where in self.each_node(ast.Try):
            self.assertEqual(node.finalbody, [], where)
            self.assertTrue(all(handler.type for handler in node.handlers), where)
        for node, where in self.each_node(ast.Assign):
            self.assertEqual(len(node.targets), 1, where)
        for node, where in self.each_node(ast.ListComp):
            self.assertEqual(len(node.generators), 1, where)
            self.assertLessEqual(len(node.generators[0].ifs), 1, where)

    def test_words_by_themselves_stand_at_the_top_alone(self):
        for path in package_files():
            tree = tree_of(path)
            self.assertIsNotNone(ast.get_docstring(tree), path.name)
            for node in ast.walk(tree):
                if isinstance(node, ast.Expr) and node != tree.body[0]:
                    self.assertIsInstance(node.value, ast.Call, (path.name, node.lineno))

    def test_the_top_of_a_file(self):
        for path in package_files():
            for node in tree_of(path).body[1:]:
                self.assertIsInstance(node, (ast.ImportFrom, ast.FunctionDef, ast.ClassDef, ast.Assign), path.name)
                if isinstance(node, ast.Assign):
                    for each in ast.walk(node.value):
                        self.assertIsInstance(each, PLAIN_VALUES, (path.name, node.lineno))

    def test_functions(self):
        for node, where in self.each_node(ast.FunctionDef):
            self.assertLessEqual(node.end_lineno - node.lineno + 1, 40, where)
            self.assertEqual(node.decorator_list, [], where)
            given = node.args
            self.assertEqual((given.vararg, given.kwarg, given.kwonlyargs, given.posonlyargs), (None, None, [], []),
                             where)
            for each in given.args:
                self.assertNotIn(each.arg, dir(builtins), where)

    def test_classes(self):
        for node, where in self.each_node(ast.ClassDef):
            self.assertLessEqual(len(node.bases), 1, where)
            self.assertEqual((node.decorator_list, node.keywords), ([], []), where)
            for part in node.body:
                self.assertIsInstance(part, (ast.FunctionDef, ast.Pass), where)

    def test_names_of_methods_and_of_values(self):
        methods, values = own_methods() - UNDERSCORED, set()
        for node, where in self.each_node(ast.Attribute):
            if isinstance(node.ctx, ast.Store):
                values.add(node.attr)
                self.assertEqual(getattr(node.value, "id", None), "self", where)
        self.assertEqual(methods & values, set())
        self.assertEqual(methods & TAKEN - METHODS - {"add", "discard"}, set())
        self.assertEqual(values & (TAKEN | {"args"}) - VALUES, set())

    def test_methods_stand_once_and_begin_with_self(self):
        for node, where in self.each_node(ast.ClassDef):
            methods = [part for part in node.body if isinstance(part, ast.FunctionDef)]
            self.assertEqual(len({part.name for part in methods}), len(methods), where)
            for part in methods:
                self.assertEqual(part.args.args[0].arg, "self", where)
                if part.name == "__init__":
                    self.assertFalse([each for each in ast.walk(part) if isinstance(each, ast.Return)], where)
                else:
                    self.assertNotIn(part.name, UNDERSCORED, where)

    def test_names(self):
        for node, where in self.each_node(ast.Name):
            self.assertRegex(node.id, r"^[A-Za-z]", where)
            self.assertNotIn(node.id, NAMES_NOWHERE, where)
            if node.id in dir(builtins):
                self.assertIn(node.id, BUILTINS, where)
                self.assertIsInstance(node.ctx, ast.Load, where)

    def test_methods(self):
        allowed = METHODS | own_methods()
        for node, where in self.each_node(ast.Attribute):
            self.assertNotIn(node.attr, NAMES_NOWHERE, where)
        for node, where in self.each_node(ast.Call):
            if isinstance(node.func, ast.Attribute):
                self.assertIn(node.func.attr, allowed, where)

    def test_comparisons_and_values(self):
        for node, where in self.each_node(ast.Compare):
            for operator, right in zip(node.ops, node.comparators):
                if isinstance(operator, (ast.Is, ast.IsNot)):
                    self.assertIn(getattr(right, "value", 0), (None, True, False), where)
        for node, where in self.each_node(ast.Constant):
            self.assertIsInstance(node.value, (int, str, type(None)), where)
            if isinstance(node.value, str):
                self.assertNotIn("%", node.value, where)

    def test_locals_are_not_called_like_imports_or_classes(self):
        for path in package_files():
            tree = tree_of(path)
            taken = [node.name for node in tree.body if isinstance(node, ast.ClassDef)]
            for node in tree.body:
                if isinstance(node, ast.ImportFrom):
                    taken.extend(alias.asname or alias.name for alias in node.names)
            for node in ast.walk(tree):
                if isinstance(node, ast.arg):
                    self.assertNotIn(node.arg, taken, (path.name, node.lineno))
                if isinstance(node, ast.Name) and isinstance(node.ctx, ast.Store):
                    self.assertNotIn(node.id, taken, (path.name, node.lineno))

    def test_keywords(self):
        for node, where in self.each_node(ast.Call):
            name = called(node)
            if name in BUILTINS or name in METHODS:
                for keyword in node.keywords:
                    self.assertIn(keyword.arg, KEYWORDS.get(name, ()), where)

    def test_sets_are_asked_or_ordered_on_the_spot(self):
        for path in package_files():
            for node in ast.walk(with_parents(tree_of(path))):
                if called(node) in ("set", "frozenset"):
                    above = node.above
                    while isinstance(above, ast.BinOp):
                        above = above.above
                    asked = isinstance(above, ast.Compare) or called(above) in ("sorted", "len")
                    self.assertTrue(asked, (path.name, node.lineno))

    def test_what_is_walked_is_not_kept(self):
        for path in package_files():
            for node in ast.walk(with_parents(tree_of(path))):
                if called(node) in WALKED:
                    above = node.above
                    walked = isinstance(above, (ast.For, ast.comprehension)) and above.iter == node
                    self.assertTrue(walked or called(above) in WALKERS, (path.name, node.lineno))


if __name__ == "__main__":
    unittest.main()
