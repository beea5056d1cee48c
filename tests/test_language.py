"""The form of the package's own files, as far as it can be seen in them."""

import ast
import builtins
import pathlib
import re
import unittest

PACKAGE = pathlib.Path(__file__).resolve().parent.parent / "nearsums"
FILES = sorted(path for path in PACKAGE.rglob("*") if "__pycache__" not in path.parts)

OWN_NAMES = set("""len range enumerate zip min max sum abs sorted reversed int str bool list tuple dict set frozenset
    isinstance ord repr any all divmod Exception ValueError TypeError KeyError IndexError LookupError
    ZeroDivisionError ArithmeticError OverflowError RuntimeError NotImplementedError AttributeError
    StopIteration""".split())
OWN_METHODS = set("""append clear copy count endswith extend find get index insert isalnum isalpha isdigit islower
    isspace isupper items join keys ljust lower lstrip partition pop remove replace reverse rfind rjust rpartition
    rsplit rstrip setdefault split splitlines startswith strip update upper values zfill bit_length""".split())
WORDS_OUT = """type typing typing_extensions enum Enum IntEnum StrEnum Flag IntFlag Generic Protocol ABC ABCMeta
    namedtuple NamedTuple TypedDict TYPE_CHECKING abstractmethod""".split()
NAMES_OUT = set("""register mro elements open input version_info with_traceback add_note attrgetter breakpoint builtins
    compile copyright credits delattr dir eval exec exit gc getattr globals hasattr help id importlib license locals
    methodcaller os quit setattr super type vars sys format format_map chr sort args""".split())
SPECIAL_METHODS = {"__init__", "__eq__", "__repr__", "__str__", "__len__"}
NODES = set("""Module FunctionDef ClassDef Return Assign AugAssign For While If Raise Try ImportFrom Expr Pass Break
    Continue BoolOp BinOp UnaryOp Lambda IfExp Dict Set ListComp Compare Call JoinedStr FormattedValue Constant
    Attribute Subscript Name List Tuple Slice Load Store And Or Add Sub Mult Mod Pow LShift RShift BitOr BitXor BitAnd
    FloorDiv Invert Not UAdd USub Eq NotEq Lt LtE Gt GtE Is IsNot In NotIn comprehension ExceptHandler arguments arg
    keyword alias""".split())
KINDS_TO_ASK = {"int", "str", "bool", "list", "tuple", "dict"}
KEYS = {"len", "int", "str", "abs", "sum", "min", "max", "tuple"}
KEYWORDS = {"sorted": {"key", "reverse"}, "min": {"key", "default"}, "max": {"key", "default"}, "sum": {"start"},
            "enumerate": {"start"}, "zip": {"strict"}}
WALKED = {"zip", "enumerate", "reversed", "range", "items", "keys", "values"}
WALKERS = {"list", "tuple", "dict", "sorted", "sum", "any", "all", "enumerate", "zip", "min", "max", "join"}
METHODS_TOO = OWN_METHODS | {"add", "discard"}
VALUES_TOO = set("count index title find get join lower upper split strip copy add".split())
TAKEN = {name for kind in (str, int, list, dict, set, bytes, tuple, bool) for name in dir(kind)} | {"args"}
KINDS_OF_VALUE = (ast.List, ast.Tuple, ast.Dict, ast.Constant, ast.Name, ast.UnaryOp, ast.USub, ast.Load)


def trees():
    return [(path, path.read_text("utf-8"), ast.parse(path.read_text("utf-8"))) for path in FILES if path.is_file()]


def nodes_of(tree, *kinds):
    return [node for node in ast.walk(tree) if isinstance(node, kinds)]


def with_parents(tree):
    """Each node with the one that it stands in, and the one around that."""
    parents = {part: node for node in ast.walk(tree) for part in ast.iter_child_nodes(node)}
    return [(node, parents[node], parents.get(parents[node])) for node in ast.walk(tree) if node in parents]


def called(node):
    """The name of the function or method that is called, or None where the node is no call."""
    function = getattr(node, "func", None)
    return getattr(function, "id", None) or getattr(function, "attr", None)


def is_kind_asked(node, parent, around):
    """Whether this name stands behind the comma of isinstance, by itself or in a tuple."""
    call = around if isinstance(parent, ast.Tuple) else parent
    return called(call) == "isinstance" and (node in call.args[1:] or parent in call.args[1:])


def bound_at_top(tree):
    bound = []
    for node in tree.body:
        if isinstance(node, (ast.FunctionDef, ast.ClassDef)):
            bound.append(node.name)
        elif isinstance(node, ast.Assign):
            bound.extend(target.id for target in node.targets)
        elif isinstance(node, ast.ImportFrom):
            bound.extend(alias.asname or alias.name for alias in node.names)
    return bound


def stored_names(tree):
    stored = {node.id for node in nodes_of(tree, ast.Name) if isinstance(node.ctx, ast.Store)}
    return stored | {node.arg for node in nodes_of(tree, ast.arg)}


class TestLanguage(unittest.TestCase):
    def test_files_and_signs(self):
        self.assertIn(PACKAGE / "__init__.py", FILES)
        for path in FILES:
            self.assertRegex(path.name, r"\A[a-z0-9_]+\.py\Z")
            self.assertFalse(hasattr(builtins, path.stem.strip("_")), path)
        for path, text, tree in trees():
            with self.subTest(file=path.name):
                self.assertRegex(text, r"\A[ -~\n]*\Z")
                self.assertLessEqual(len(text.splitlines()), 400)
                self.assertLessEqual(max(len(line) for line in text.splitlines()), 120)
                for node in nodes_of(tree, ast.FunctionDef):
                    self.assertLessEqual(node.end_lineno - node.lineno + 1, 40, node.name)

    def test_words_that_are_out(self):
        for path, text, tree in trees():
            with self.subTest(file=path.name):
                self.assertIsNone(re.search(r"\b(" + "|".join(WORDS_OUT) + r")\b", text))
                self.assertIsNone(re.search("dataclass|overload|contextmanager", text))

    def test_imports(self):
        drawn = {}
        tops = {path.stem: bound_at_top(tree) for path, text, tree in trees()}
        for path, text, tree in trees():
            with self.subTest(file=path.name):
                drawn[path.stem] = []
                for node in nodes_of(tree, ast.ImportFrom):
                    self.assertIn(node, tree.body)
                    self.assertEqual(node.level, 0)
                    self.assertRegex(node.module, r"\Anearsums\.[a-z0-9_]+\Z")
                    source = node.module.split(".")[1]
                    drawn[path.stem].append(source)
                    for alias in node.names:
                        self.assertIn(alias.name, tops[source])
        self.assertEqual(drawn["__init__"], [])
        self.assertEqual(set(tops["__init__"]) & set(tops), set())
        while drawn:
            free = [name for name in drawn if not set(drawn[name]) & set(drawn)]
            self.assertTrue(free, "files draw from one another")
            for name in free:
                drawn.pop(name)

    def test_top_of_a_module(self):
        for path, text, tree in trees():
            with self.subTest(file=path.name):
                bound = bound_at_top(tree)
                self.assertEqual(len(bound), len(set(bound)))
                self.assertIsNotNone(ast.get_docstring(tree))
                for node in tree.body[1:]:
                    self.assertIsInstance(node, (ast.ImportFrom, ast.FunctionDef, ast.ClassDef, ast.Assign))
                    if isinstance(node, ast.Assign):
                        for part in ast.walk(node.value):
                            self.assertIsInstance(part, KINDS_OF_VALUE)
                            self.assertTrue(part is node.value or not isinstance(part, (ast.List, ast.Dict)))

    def test_only_the_nodes_that_are_in(self):
        for path, text, tree in trees():
            with self.subTest(file=path.name):
                for node in ast.walk(tree):
                    self.assertIn(node.__class__.__name__, NODES, getattr(node, "lineno", None))

    def test_functions_and_classes(self):
        for path, text, tree in trees():
            with self.subTest(file=path.name):
                for node in nodes_of(tree, ast.FunctionDef):
                    self.assertEqual(node.decorator_list, [])
                    self.assertIsNone(node.returns)
                    self.assertEqual([part for part in nodes_of(node, ast.arg) if part.annotation], [])
                    self.assertEqual([node.args.vararg, node.args.kwarg, node.args.kwonlyargs, node.args.posonlyargs],
                                     [None, None, [], []])
                for node in nodes_of(tree, ast.ClassDef):
                    self.assertIn(node, tree.body)
                    self.assertLessEqual(len(node.bases), 1)
                    self.assertEqual([node.decorator_list, node.keywords], [[], []])
                    methods = [part.name for part in node.body if isinstance(part, ast.FunctionDef)]
                    self.assertEqual(len(methods), len(set(methods)))
                    for part in node.body:
                        self.assertIsInstance(part, (ast.FunctionDef, ast.Pass))

    def test_statements_and_expressions(self):
        for path, text, tree in trees():
            with self.subTest(file=path.name):
                for node in nodes_of(tree, ast.Assign):
                    self.assertEqual(len(node.targets), 1)
                for node in nodes_of(tree, ast.For, ast.While):
                    self.assertEqual(node.orelse, [])
                for node in nodes_of(tree, ast.Try):
                    self.assertEqual(node.finalbody, [])
                for node in nodes_of(tree, ast.Expr):
                    self.assertTrue(isinstance(node.value, ast.Call) or node is tree.body[0], node.lineno)
                for node in nodes_of(tree, ast.ListComp):
                    self.assertEqual(len(node.generators), 1)
                    self.assertLessEqual(len(node.generators[0].ifs), 1)
                for node in nodes_of(tree, ast.Constant):
                    self.assertTrue(node.value is None or node.value.__class__ in (int, str, bool), node.lineno)
                    self.assertFalse(isinstance(node.value, str) and "%" in node.value, node.lineno)
                for node in nodes_of(tree, ast.FormattedValue):
                    self.assertIsInstance(node.value, ast.Name)
                    self.assertIsNone(node.format_spec)
                self.assertLessEqual(set(re.findall(r"\\.", text)), {"\\n", "\\t", "\\\\", "\\'", '\\"'})
                for node in nodes_of(tree, ast.BinOp):
                    if isinstance(node.op, ast.Pow):
                        self.assertIsInstance(node.right, ast.Constant)
                for node in nodes_of(tree, ast.Compare):
                    for operator, right in zip(node.ops, node.comparators):
                        if isinstance(operator, (ast.Is, ast.IsNot)):
                            self.assertIn(getattr(right, "value", 0), (None, True, False))
                            self.assertIsInstance(right, ast.Constant)

    def test_errors(self):
        for path, text, tree in trees():
            with self.subTest(file=path.name):
                for node in nodes_of(tree, ast.ExceptHandler):
                    self.assertIsNotNone(node.type)
                    taken = {part.id for part in nodes_of(node.type, ast.Name)}
                    self.assertEqual(taken & {"Exception", "TypeError", "BaseException"}, set())
                for node in nodes_of(tree, ast.Raise):
                    self.assertIsInstance(node.exc, ast.Call)

    def test_names(self):
        for path, text, tree in trees():
            with self.subTest(file=path.name):
                bound = set(bound_at_top(tree))
                stored = stored_names(tree)
                used = {node.id for node in nodes_of(tree, ast.Name)}
                outside = {name for name in used - bound - stored if hasattr(builtins, name)}
                self.assertEqual(outside - OWN_NAMES, set())
                self.assertEqual({name for name in bound | stored if hasattr(builtins, name)}, set())
                inner = {name for node in nodes_of(tree, ast.FunctionDef) for name in stored_names(node)}
                classes = {node.name for node in nodes_of(tree, ast.ClassDef)}
                drawn = {alias.name for node in nodes_of(tree, ast.ImportFrom) for alias in node.names}
                self.assertEqual(inner & (classes | drawn), set())
                attributes = {node.attr for node in nodes_of(tree, ast.Attribute)}
                defined = {node.name for node in nodes_of(tree, ast.FunctionDef, ast.ClassDef)}
                for name in used | bound | stored | attributes | defined:
                    self.assertTrue(name in SPECIAL_METHODS or re.match(r"[A-Za-z][A-Za-z0-9_]*\Z", name), name)
                    self.assertNotIn(name, NAMES_OUT)

    def test_methods(self):
        methods = set()
        values = set()
        for path, text, tree in trees():
            for node in nodes_of(tree, ast.ClassDef):
                methods |= {part.name for part in node.body if isinstance(part, ast.FunctionDef)}
            values |= {node.attr for node in nodes_of(tree, ast.Attribute) if isinstance(node.ctx, ast.Store)}
        self.assertEqual(methods & values, set())
        for path, text, tree in trees():
            with self.subTest(file=path.name):
                for node in nodes_of(tree, ast.Attribute):
                    self.assertIn(node.attr, OWN_METHODS | methods | values)

    def test_sets_stand_on_the_spot(self):
        for path, text, tree in trees():
            with self.subTest(file=path.name):
                kept = [node.value for node in nodes_of(tree, ast.Assign, ast.Return)]
                walked = [node.iter for node in nodes_of(tree, ast.For, ast.comprehension)]
                for node in kept + walked:
                    self.assertNotIsInstance(node, ast.Set)
                    name = getattr(getattr(node, "func", None), "id", None)
                    self.assertNotIn(name, ("set", "frozenset"))
                for node in kept:
                    name = getattr(getattr(node, "func", None), "id", None)
                    self.assertNotIn(name, ("zip", "enumerate", "reversed", "range"))

    def test_classes_are_not_handed_on(self):
        classes = {node.name for path, text, tree in trees() for node in nodes_of(tree, ast.ClassDef)}
        for path, text, tree in trees():
            for node, parent, around in with_parents(tree):
                if isinstance(node, ast.Name) and node.id in classes:
                    with self.subTest(file=path.name, line=node.lineno):
                        at_base = isinstance(parent, ast.Attribute) and parent.attr == "__init__"
                        self.assertTrue((isinstance(parent, ast.Call) and parent.func is node) or at_base
                                        or isinstance(parent, (ast.ClassDef, ast.ExceptHandler))
                                        or is_kind_asked(node, parent, around))

    def test_own_names_are_called_where_they_stand(self):
        for path, text, tree in trees():
            for node, parent, around in with_parents(tree):
                if isinstance(node, ast.Name) and node.id in OWN_NAMES:
                    with self.subTest(file=path.name, line=node.lineno):
                        is_called = isinstance(parent, ast.Call) and parent.func is node
                        is_key = isinstance(parent, ast.keyword) and parent.arg == "key" and node.id in KEYS
                        is_base = isinstance(parent, (ast.ClassDef, ast.ExceptHandler))
                        is_kind = is_kind_asked(node, parent, around) and node.id in KINDS_TO_ASK
                        self.assertTrue(is_called or is_key or is_base or is_kind)

    def test_methods_are_called_where_they_stand(self):
        methods = {part.name for path, text, tree in trees() for node in nodes_of(tree, ast.ClassDef)
                   for part in node.body if isinstance(part, ast.FunctionDef)}
        values = {node.attr for path, text, tree in trees() for node in nodes_of(tree, ast.Attribute)
                  if isinstance(node.ctx, ast.Store)}
        for path, text, tree in trees():
            for node, parent, around in with_parents(tree):
                if isinstance(node, ast.Attribute) and node.attr in (OWN_METHODS | methods) - values:
                    with self.subTest(file=path.name, line=node.lineno):
                        self.assertTrue((isinstance(parent, ast.Call) and parent.func is node)
                                        or (isinstance(parent, ast.keyword) and parent.arg == "key"))

    def test_keywords(self):
        for path, text, tree in trees():
            for node in nodes_of(tree, ast.Call):
                with self.subTest(file=path.name, line=node.lineno):
                    used = {keyword.arg for keyword in node.keywords}
                    if called(node) in OWN_NAMES | OWN_METHODS:
                        self.assertLessEqual(used, KEYWORDS.get(called(node), set()))
                    for keyword in node.keywords:
                        if keyword.arg in ("reverse", "strict"):
                            self.assertIsInstance(getattr(keyword.value, "value", None), bool)

    def test_walked_at_once(self):
        for path, text, tree in trees():
            for node, parent, around in with_parents(tree):
                if isinstance(node, ast.Call) and called(node) in WALKED:
                    with self.subTest(file=path.name, line=node.lineno):
                        is_walk = isinstance(parent, (ast.For, ast.comprehension)) and parent.iter is node
                        self.assertTrue(is_walk or (called(parent) in WALKERS and node in parent.args[:1])
                                        or (called(parent) == "zip" and node in parent.args))

    def test_sets_are_not_kept(self):
        for path, text, tree in trees():
            self.assertEqual(nodes_of(tree, ast.Set), [])
            for node, parent, around in with_parents(tree):
                if isinstance(node, ast.Call) and called(node) in ("set", "frozenset"):
                    with self.subTest(file=path.name, line=node.lineno):
                        is_within = called(parent) in ("sorted", "len") and not parent.keywords
                        self.assertTrue(is_within or isinstance(parent, (ast.Compare, ast.BinOp)))

    def test_lists_and_dicts_at_the_top_are_only_read(self):
        for path, text, tree in trees():
            kept = [node.targets[0].id for node in tree.body
                    if isinstance(node, ast.Assign) and isinstance(node.value, (ast.List, ast.Dict))]
            for node, parent, around in with_parents(tree):
                if isinstance(node, ast.Name) and node.id in kept and isinstance(node.ctx, ast.Load):
                    with self.subTest(file=path.name, line=node.lineno):
                        is_indexed = isinstance(parent, ast.Subscript) and isinstance(parent.ctx, ast.Load)
                        is_walked = isinstance(parent, (ast.For, ast.comprehension))
                        is_looked_up = isinstance(parent, ast.Attribute) and parent.attr in ("get", "count", "index")
                        is_copied = called(parent) in ("list", "dict", "tuple", "sorted", "len")
                        self.assertTrue(is_indexed or is_walked or is_looked_up or is_copied
                                        or isinstance(parent, ast.Compare))

    def test_names_of_methods_and_values_are_free(self):
        for path, text, tree in trees():
            with self.subTest(file=path.name):
                for node in nodes_of(tree, ast.ClassDef):
                    methods = {part.name for part in node.body if isinstance(part, ast.FunctionDef)}
                    # Of those with two underscores the making of an object is all that is needed.
                    self.assertEqual((methods - {"__init__"}) & (TAKEN - METHODS_TOO), set())
                values = {node.attr for node in nodes_of(tree, ast.Attribute) if isinstance(node.ctx, ast.Store)}
                self.assertEqual(values & (TAKEN - VALUES_TOO), set())
                for node in nodes_of(tree, ast.FunctionDef):
                    if node.name == "__init__":
                        self.assertEqual([part for part in nodes_of(node, ast.Return) if part.value], [])

    def test_values_are_given_through_local_names(self):
        for path, text, tree in trees():
            for node in nodes_of(tree, ast.Attribute, ast.Subscript):
                if isinstance(node.ctx, ast.Store):
                    with self.subTest(file=path.name, line=node.lineno):
                        inner = node.value
                        while isinstance(inner, (ast.Attribute, ast.Subscript)):
                            inner = inner.value
                        self.assertIsInstance(inner, ast.Name)
                        self.assertNotIn(inner.id, bound_at_top(tree))

    def test_what_a_loop_walks_is_not_changed_in_it(self):
        changes = {"append", "clear", "extend", "insert", "pop", "remove", "reverse", "setdefault", "update"}
        for path, text, tree in trees():
            for loop in nodes_of(tree, ast.For):
                walked = {ast.dump(node) for node in nodes_of(loop.iter, ast.Name, ast.Attribute)}
                for part in loop.body:
                    for node in nodes_of(part, ast.Call):
                        if called(node) in changes and isinstance(node.func, ast.Attribute):
                            self.assertNotIn(ast.dump(node.func.value), walked, (path.name, loop.lineno))

    def test_nothing_is_defined_but_is_used(self):
        used = {node.id for path, text, tree in trees() for node in nodes_of(tree, ast.Name)
                if isinstance(node.ctx, ast.Load)}
        for path, text, tree in trees():
            drawn = {alias.name for node in nodes_of(tree, ast.ImportFrom) for alias in node.names}
            here = {node.id for node in nodes_of(tree, ast.Name) if isinstance(node.ctx, ast.Load)}
            self.assertEqual(drawn - here, set(), path.name)
            constants = {name for name in bound_at_top(tree) if name.isupper()}
            self.assertEqual(constants - used, set(), path.name)


if __name__ == "__main__":
    unittest.main()
