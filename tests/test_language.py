"""The package keeps to the small part of Python that it is written in, as far as a look at its rows can tell."""

import ast
import builtins
import functools
import pathlib
import re
import unittest

PACKAGE = pathlib.Path(__file__).resolve().parent.parent / "lendrule"
FILES = sorted(path for path in PACKAGE.rglob("*") if "__pycache__" not in path.parts)

STATEMENTS = (ast.Assign, ast.AugAssign, ast.If, ast.While, ast.For, ast.Return, ast.Break, ast.Continue, ast.Pass,
              ast.Raise, ast.Try, ast.Expr, ast.FunctionDef, ast.ClassDef, ast.ImportFrom)
OTHERS = (ast.Module, ast.Constant, ast.List, ast.Tuple, ast.Dict, ast.Set, ast.BinOp, ast.UnaryOp, ast.BoolOp,
          ast.Compare, ast.IfExp, ast.Call, ast.Attribute, ast.Subscript, ast.Slice, ast.ListComp, ast.comprehension,
          ast.JoinedStr, ast.FormattedValue, ast.Name, ast.Lambda, ast.arguments, ast.arg, ast.keyword, ast.alias,
          ast.ExceptHandler, ast.operator, ast.unaryop, ast.boolop, ast.cmpop, ast.expr_context)
OWN_NAMES = set("""
    len range enumerate zip min max sum abs sorted reversed int str bool list tuple dict set frozenset isinstance ord
    repr any all divmod Exception ValueError TypeError KeyError IndexError LookupError ZeroDivisionError
    ArithmeticError OverflowError RuntimeError NotImplementedError AttributeError StopIteration
""".split())
METHODS = set("""
    append clear copy count endswith extend find get index insert isalnum isalpha isdigit islower isspace isupper
    items join keys ljust lower lstrip partition pop remove replace reverse rfind rjust rpartition rsplit rstrip
    setdefault split splitlines startswith strip update upper values zfill bit_length __init__
""".split())
DUNDERS = ("__init__", "__eq__", "__repr__", "__str__", "__len__")
WORDS = r"\b(type|typing|typing_extensions|enum|Enum|IntEnum|StrEnum|Flag|IntFlag|Generic|Protocol|ABC|ABCMeta|" \
        r"namedtuple|NamedTuple|TypedDict|TYPE_CHECKING|abstractmethod)\b|dataclass|overload|contextmanager"
NOWHERE = {"register", "mro", "elements", "open", "input", "version_info", "with_traceback", "add_note"}


@functools.cache
def trees():
    return [(path, ast.parse(path.read_text(encoding="utf-8"))) for path in FILES]


def bound_names(tree):
    for node in ast.walk(tree):
        if isinstance(node, ast.Name) and isinstance(node.ctx, ast.Store):
            yield node.id
        elif isinstance(node, ast.arg):
            yield node.arg
        elif isinstance(node, (ast.FunctionDef, ast.ClassDef)) or isinstance(node, ast.ExceptHandler) and node.name:
            yield node.name


@functools.cache
def own_methods():
    return {node.name for _, tree in trees() for one in tree.body if isinstance(one, ast.ClassDef)
            for node in one.body if isinstance(node, ast.FunctionDef)}


@functools.cache
def own_values():
    return {node.attr for _, tree in trees() for node in ast.walk(tree)
            if isinstance(node, ast.Attribute) and isinstance(node.ctx, ast.Store)}


def with_parents(tree):
    """Each node with the one that it stands in, and the one beyond."""
    above = {child: node for node in ast.walk(tree) for child in ast.iter_child_nodes(node)}
    for node in ast.walk(tree):
        if node in above:
            yield node, above[node], above.get(above[node])


def is_called(node, name):
    return isinstance(node, ast.Call) and getattr(node.func, "id", getattr(node.func, "attr", None)) == name


class LanguageTest(unittest.TestCase):

    def test_files(self):
        self.assertIn(PACKAGE / "__init__.py", FILES)
        for path in FILES:
            self.assertTrue(path.is_file(), path)
            self.assertRegex(path.name, r"^[a-z0-9_]+\.py$")
            self.assertNotIn(path.stem, dir(builtins))

    def test_signs_and_sizes(self):
        for path in FILES:
            text = path.read_bytes().decode("ascii")
            self.assertRegex(text, r"^[ -~\n]*$", path)
            rows = text.split("\n")
            self.assertLessEqual(len(rows), 401, path)
            self.assertLessEqual(max(map(len, rows)), 120, path)
            self.assertIsNone(re.search(WORDS, text), path)

    def test_size_of_functions(self):
        for path, tree in trees():
            for node in ast.walk(tree):
                if isinstance(node, ast.FunctionDef):
                    self.assertLessEqual(node.end_lineno - node.lineno + 1, 40, (path, node.name))

    def test_imports(self):
        modules = {"lendrule." + path.stem: tree for path, tree in trees()}
        for path, tree in trees():
            for node in ast.walk(tree):
                self.assertNotIsInstance(node, ast.Import, path)
                if isinstance(node, ast.ImportFrom):
                    self.assertIn(node, tree.body)
                    self.assertEqual(node.level, 0)
                    defined = {name for one in modules[node.module].body for name in bound_names(one)}
                    for alias in node.names:
                        self.assertIn(alias.name, defined, (path, node.module))

    def test_no_two_files_draw_from_one_another(self):
        draws = {path.stem: {node.module.split(".")[1] for node in tree.body if isinstance(node, ast.ImportFrom)}
                 for path, tree in trees()}
        while draws:
            free = [stem for stem in draws if not draws[stem] & set(draws)]
            self.assertTrue(free, draws)
            for stem in free:
                draws.pop(stem)

    def test_statements_and_expressions(self):
        for path, tree in trees():
            for node in ast.walk(tree):
                self.assertIsInstance(node, STATEMENTS + OTHERS, (path, getattr(node, "lineno", 0)))
                self.look(path, node)

    def look(self, path, node):
        where = (path, getattr(node, "lineno", 0))
        if isinstance(node, ast.Assign):
            self.assertEqual(len(node.targets), 1, where)
        if isinstance(node, (ast.For, ast.While)):
            self.assertEqual(node.orelse, [], where)
        if isinstance(node, ast.Try):
            self.assertEqual(node.finalbody, [], where)
        if isinstance(node, ast.ListComp):
            self.assertEqual(len(node.generators), 1, where)
            self.assertLessEqual(len(node.generators[0].ifs), 1, where)
        if isinstance(node, ast.BinOp):
            self.assertNotIsInstance(node.op, (ast.Div, ast.MatMult), where)
        if isinstance(node, ast.Constant):
            self.assertIn(type(node.value), (int, str, bool, type(None)), where)
            self.assertNotIn("%", str(node.value), where)
        if isinstance(node, ast.Compare) and any(isinstance(one, (ast.Is, ast.IsNot)) for one in node.ops):
            self.assertIn(getattr(node.comparators[0], "value", ...), (None, True, False), where)
        if isinstance(node, (ast.FunctionDef, ast.ClassDef)):
            self.assertEqual(node.decorator_list, [], where)
        if isinstance(node, ast.arguments):
            self.assertEqual((node.vararg, node.kwarg, node.kwonlyargs, node.posonlyargs), (None, None, [], []))
        if isinstance(node, ast.ClassDef):
            self.assertEqual(len(node.bases) <= 1 and not node.keywords, True, where)
            self.assertTrue(all(isinstance(one, (ast.FunctionDef, ast.Pass)) for one in node.body), where)

    def test_lone_expressions_are_calls(self):
        for path, tree in trees():
            for node in ast.walk(tree):
                if isinstance(node, ast.Expr) and node is not tree.body[0]:
                    self.assertIsInstance(node.value, ast.Call, (path, node.lineno))

    def test_top_of_modules(self):
        for path, tree in trees():
            self.assertIsNotNone(ast.get_docstring(tree), path)
            names = []
            for node in tree.body[1:]:
                self.assertIsInstance(node, (ast.ImportFrom, ast.FunctionDef, ast.ClassDef, ast.Assign), path)
                if isinstance(node, ast.Assign):
                    names.append(node.targets[0].id)
                    for inner in ast.walk(node.value):
                        self.assertIsInstance(inner, (ast.Constant, ast.Tuple, ast.List, ast.Dict, ast.Name, ast.Load))
                        if inner is not node.value:
                            self.assertNotIsInstance(inner, (ast.List, ast.Dict))
                elif isinstance(node, ast.ImportFrom):
                    names.extend(alias.name for alias in node.names)
                else:
                    names.append(node.name)
            self.assertEqual(len(names), len(set(names)), path)

    def test_names(self):
        for path, tree in trees():
            imported = {alias.name for node in tree.body if isinstance(node, ast.ImportFrom) for alias in node.names}
            classes = {node.name for node in tree.body if isinstance(node, ast.ClassDef)}
            top = {name for node in tree.body if not isinstance(node, ast.ImportFrom) for name in bound_names(node)}
            for name in bound_names(tree):
                if name not in DUNDERS:
                    self.assertRegex(name, r"^[A-Za-z][A-Za-z0-9_]*$", path)
                    self.assertNotIn(name, set(dir(builtins)) | imported | NOWHERE, path)
            for node in ast.walk(tree):
                if isinstance(node, ast.arg) or isinstance(node, ast.Name) and isinstance(node.ctx, ast.Store):
                    self.assertNotIn(getattr(node, "arg", None) or node.id, classes, path)
                if isinstance(node, ast.Name) and node.id not in top | imported:
                    self.assertIn(node.id, OWN_NAMES, (path, node.lineno))
                if isinstance(node, ast.Attribute):
                    self.assertNotIn(node.attr, NOWHERE | {"format", "format_map"}, path)
                if isinstance(node, ast.Call) and isinstance(node.func, ast.Attribute):
                    self.assertIn(node.func.attr, METHODS | own_methods(), (path, node.lineno))

    def test_error_classes_taken(self):
        """The package takes its own errors alone: what else may be taken, and round what, it need not ask."""
        own = {node.name for _, tree in trees() for node in tree.body if isinstance(node, ast.ClassDef)}
        for path, tree in trees():
            for node in ast.walk(tree):
                if isinstance(node, ast.ExceptHandler):
                    self.assertIn(getattr(node.type, "id", ""), own, (path, node.lineno))
                if isinstance(node, ast.Raise):
                    self.assertIsInstance(node.exc, ast.Call, (path, node.lineno))

    def test_own_methods_and_values(self):
        python = {name for one in ("", 0, [], {}, set(), b"", ()) for name in dir(one)}
        self.assertEqual(own_methods() & own_values(), set())
        self.assertEqual((own_methods() - set(DUNDERS)) & (python - METHODS - {"add", "discard"}), set())
        self.assertEqual(own_values() & (python - {"count", "index", "title", "find", "get", "join", "lower", "upper",
                                                   "split", "strip", "copy", "add"}) - {"args"}, set())

    def test_methods_are_called_where_they_stand(self):
        names = METHODS | own_methods()
        for path, tree in trees():
            for node, parent, _ in with_parents(tree):
                if isinstance(node, ast.Attribute) and node.attr in names - own_values():
                    self.assertTrue(isinstance(parent, ast.Call) and parent.func is node, (path, node.lineno))

    def test_values_are_given_through_a_local_name(self):
        for path, tree in trees():
            top = {name for node in tree.body for name in ([getattr(node, "name", "")] + [
                target.id for target in getattr(node, "targets", []) if isinstance(target, ast.Name)])}
            for node in ast.walk(tree):
                if isinstance(node, (ast.Attribute, ast.Subscript)) and isinstance(node.ctx, (ast.Store, ast.Del)):
                    inner = node.value
                    while isinstance(inner, (ast.Attribute, ast.Subscript)):
                        inner = inner.value
                    self.assertIsInstance(inner, ast.Name, (path, node.lineno))
                    self.assertNotIn(inner.id, top, (path, node.lineno))

    def test_classes_stand_where_they_may(self):
        own = {node.name for _, tree in trees() for node in tree.body if isinstance(node, ast.ClassDef)}
        for path, tree in trees():
            for node, parent, beyond in with_parents(tree):
                if isinstance(node, ast.Name) and node.id in own:
                    right = isinstance(parent, (ast.ExceptHandler, ast.ClassDef)) or \
                        isinstance(parent, ast.Call) and (parent.func is node or is_called(parent, "isinstance")) or \
                        isinstance(parent, ast.Tuple) and is_called(beyond, "isinstance") or \
                        isinstance(parent, ast.Attribute) and parent.attr == "__init__"
                    self.assertTrue(right, (path, node.lineno))

    def test_pythons_own_are_called(self):
        for path, tree in trees():
            for node, parent, beyond in with_parents(tree):
                if isinstance(node, ast.Name) and node.id in OWN_NAMES and not isinstance(parent, ast.ClassDef):
                    right = isinstance(parent, ast.Call) and (parent.func is node or is_called(parent, "isinstance")) \
                        or isinstance(parent, ast.keyword) and parent.arg == "key" \
                        or isinstance(parent, ast.Tuple) and is_called(beyond, "isinstance")
                    self.assertTrue(right, (path, node.lineno))

    def test_keywords(self):
        allowed = {"sorted": {"key", "reverse"}, "min": {"key", "default"}, "max": {"key", "default"},
                   "sum": {"start"}, "enumerate": {"start"}, "zip": {"strict"}}
        own = {node.name for _, tree in trees() for node in ast.walk(tree) if isinstance(node, ast.FunctionDef)}
        for path, tree in trees():
            for node in ast.walk(tree):
                if isinstance(node, ast.Call) and getattr(node.func, "id", "") not in own:
                    names = {keyword.arg for keyword in node.keywords}
                    self.assertLessEqual(names, allowed.get(getattr(node.func, "id", ""), set()), (path, node.lineno))

    def test_walked_on_the_spot(self):
        walkers = ("list", "tuple", "dict", "sorted", "sum", "any", "all", "enumerate", "zip")
        for path, tree in trees():
            for node, parent, _ in with_parents(tree):
                if not any(is_called(node, name) for name in ("zip", "enumerate", "reversed", "range", "items", "keys",
                                                              "values")):
                    continue
                right = isinstance(parent, (ast.For, ast.comprehension)) and parent.iter is node or \
                    isinstance(parent, ast.Call) and parent.args[:1] == [node] and (
                        getattr(parent.func, "id", "") in walkers or
                        getattr(parent.func, "id", "") in ("min", "max") and len(parent.args) == 1 or
                        isinstance(parent.func, ast.Attribute) and parent.func.attr == "join")
                self.assertTrue(right, (path, node.lineno))

    def test_what_is_walked_is_not_changed(self):
        changing = ("append", "clear", "extend", "insert", "pop", "remove", "reverse", "setdefault", "update")
        for path, tree in trees():
            for loop in ast.walk(tree):
                if not isinstance(loop, ast.For):
                    continue
                walked = loop.iter
                while any(is_called(walked, name) for name in ("enumerate", "zip", "reversed")):
                    walked = walked.args[0]
                shown = ast.dump(walked)
                for node in ast.walk(loop):
                    if isinstance(node, ast.Call) and isinstance(node.func, ast.Attribute):
                        self.assertFalse(node.func.attr in changing and ast.dump(node.func.value) == shown,
                                         (path, node.lineno))
                    if isinstance(node, ast.Subscript) and isinstance(node.ctx, ast.Store):
                        self.assertNotEqual(ast.dump(node.value), shown, (path, node.lineno))

    def test_sets(self):
        for path, tree in trees():
            for node, parent, _ in with_parents(tree):
                if is_called(node, "set") or is_called(node, "frozenset") or isinstance(node, ast.Set):
                    right = isinstance(parent, ast.Compare) or is_called(parent, "sorted") or is_called(parent, "len")
                    self.assertTrue(right, (path, node.lineno))

    def test_lists_and_dicts_of_the_top_are_only_read(self):
        for path, tree in trees():
            kept = {node.targets[0].id for node in tree.body
                    if isinstance(node, ast.Assign) and isinstance(node.value, (ast.List, ast.Dict))}
            for node, parent, beyond in with_parents(tree):
                if isinstance(node, ast.Name) and node.id in kept and isinstance(node.ctx, ast.Load):
                    right = isinstance(parent, ast.Subscript) and isinstance(parent.ctx, ast.Load) or \
                        isinstance(parent, (ast.Compare, ast.For, ast.comprehension)) or \
                        isinstance(parent, ast.Attribute) and parent.attr in ("get", "items", "keys", "values") or \
                        isinstance(parent, ast.Call) and getattr(parent.func, "id", "") in ("len", "list", "dict", "sorted")
                    self.assertTrue(right, (path, node.lineno))
            for node in tree.body:
                if isinstance(node, ast.ImportFrom):
                    self.assertEqual([alias.name for alias in node.names if alias.asname], [], path)

    def test_numbers(self):
        for path, tree in trees():
            for node in ast.walk(tree):
                if isinstance(node, ast.BinOp) and isinstance(node.op, ast.Pow):
                    self.assertIsInstance(node.right, ast.Constant, (path, node.lineno))
                    self.assertTrue(0 <= node.right.value <= 64, (path, node.lineno))
                    self.assertNotEqual(getattr(node.left, "value", 0), 2, (path, node.lineno))

    def test_init_gives_back_nothing(self):
        for path, tree in trees():
            for node in ast.walk(tree):
                if isinstance(node, ast.FunctionDef) and node.name in DUNDERS:
                    self.assertEqual(node.name, "__init__", path)
                    self.assertFalse(any(isinstance(one, ast.Return) for one in ast.walk(node)), path)


if __name__ == "__main__":
    unittest.main()
