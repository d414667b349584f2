"""The package keeps to LANGUAGE.md: what of its rules can be seen in the code, some of them more strictly."""

import ast
import builtins
import io
import pathlib
import re
import tokenize
import unittest

PACKAGE = pathlib.Path(__file__).resolve().parent.parent / "turnsame"
BUILTINS = {
    "len", "range", "enumerate", "zip", "min", "max", "sum", "abs", "sorted", "reversed", "int", "str", "bool",
    "list", "tuple", "dict", "set", "isinstance", "ord", "repr", "any", "all", "divmod", "ValueError", "KeyError",
    "ZeroDivisionError",
}
METHODS = set(
    "append clear copy count endswith extend find get index insert isalnum isalpha isdigit islower isspace isupper "
    "items join keys ljust lower lstrip partition pop remove replace reverse rfind rjust rpartition rsplit rstrip "
    "setdefault split splitlines startswith strip update upper values zfill bit_length removeprefix removesuffix".split()
)
NO_ATTRIBUTES = set(
    "items keys values pop update append clear extend insert remove reverse setdefault sort args encode decode hex "
    "fromhex format".split()
)
NO_WORDS = (
    "type typing typing_extensions enum Enum IntEnum StrEnum Flag IntFlag Generic Protocol ABC ABCMeta namedtuple "
    "NamedTuple TypedDict TYPE_CHECKING abstractmethod"
).split()
NO_NAMES = set(
    "register mro elements open input version_info with_traceback add_note attrgetter breakpoint builtins compile "
    "copyright credits delattr dir eval exec exit gc getattr globals hasattr help id importlib license locals "
    "methodcaller os quit setattr super type vars sys".split()
)
CHANGES = {"append", "clear", "extend", "insert", "pop", "remove", "reverse", "setdefault", "update", "sort"}
AT_ONCE = {"zip", "enumerate", "reversed", "range"}
TAKERS = {"list", "tuple", "dict", "sorted", "sum", "any", "all", "enumerate", "zip", "min", "max"}
FORBIDDEN = (
    ast.With, ast.Match, ast.Global, ast.Nonlocal, ast.Yield, ast.YieldFrom, ast.Await, ast.AsyncFor, ast.AsyncWith,
    ast.AsyncFunctionDef, ast.GeneratorExp, ast.NamedExpr, ast.Div, ast.MatMult, ast.Lambda, ast.Import,
    ast.AnnAssign,
)


class File:
    def __init__(self, path):
        self.name = path.stem
        self.path = path
        self.text = path.read_text(encoding="utf-8")
        self.tree = ast.parse(self.text)
        self.parents = {child: node for node in ast.walk(self.tree) for child in ast.iter_child_nodes(node)}
        body = self.tree.body
        self.imports = [node for node in body if isinstance(node, ast.ImportFrom)]
        self.imported = [alias.name for node in self.imports for alias in node.names]
        self.classes = [node for node in body if isinstance(node, ast.ClassDef)]
        self.functions = [node for node in body if isinstance(node, ast.FunctionDef)]
        self.constants = {
            node.targets[0].id: node.value
            for node in body
            if isinstance(node, ast.Assign) and isinstance(node.targets[0], ast.Name)
        }
        self.bound = (
            self.imported + [node.name for node in self.classes + self.functions] + list(self.constants)
        )

    def nodes(self, *kinds):
        return [node for node in ast.walk(self.tree) if isinstance(node, kinds)]


FILES = [File(path) for path in sorted(PACKAGE.glob("*.py"))]


def method_names():
    return [
        method.name for file in FILES for one in file.classes for method in one.body
        if isinstance(method, ast.FunctionDef)
    ]


def assigned_attributes():
    return {
        node.attr for file in FILES for node in file.nodes(ast.Attribute) if isinstance(node.ctx, ast.Store)
    }


class Language(unittest.TestCase):
    place = None

    def _formatMessage(self, msg, standardMsg):
        return f"{self.place}: {super()._formatMessage(msg, standardMsg)}"

    def each_node(self, *kinds):
        for file in FILES:
            for node in file.nodes(*kinds):
                self.place = (file.name, getattr(node, "lineno", 0))
                yield file, node

    def test_files(self):
        self.assertIn("__init__", [file.name for file in FILES])
        for path in PACKAGE.iterdir():
            self.assertTrue(path.suffix == ".py" or path.name == "__pycache__", path)
        for file in FILES:
            self.assertRegex(file.name, r"^[a-z_0-9]+$")
            self.assertFalse(file.name in dir(builtins) and file.name != "__init__", file.name)

    def test_signs_and_sizes(self):
        for file in FILES:
            lines = file.text.split("\n")
            self.assertLessEqual(len(lines), 401, file.name)
            self.assertLessEqual(max(len(line) for line in lines), 120, file.name)
            self.assertEqual([sign for sign in file.text if sign != "\n" and not " " <= sign <= "~"], [], file.name)
        for _, node in self.each_node(ast.FunctionDef):
            self.assertLessEqual(node.end_lineno - node.lineno + 1, 40)

    def test_words_that_do_not_occur(self):
        for file in FILES:
            for word in NO_WORDS:
                self.assertIsNone(re.search(rf"\b{word}\b", file.text), (file.name, word))
            for word in ("dataclass", "overload", "contextmanager"):
                self.assertNotIn(word, file.text)

    def test_strings(self):
        for file in FILES:
            for token in tokenize.generate_tokens(io.StringIO(file.text).readline):
                if token.type == tokenize.STRING or "FSTRING" in tokenize.tok_name[token.type]:
                    self.assertNotIn("%", token.string, file.name)
                    for escape in re.findall(r"\\(.)", token.string, re.S):
                        self.assertIn(escape, "nt\\\"'", file.name)
        for _, node in self.each_node(ast.FormattedValue):
            self.assertIsNone(node.format_spec)
            self.assertEqual([one for one in ast.walk(node) if isinstance(one, ast.JoinedStr)], [])

    def test_values(self):
        for _, node in self.each_node(ast.Constant):
            self.assertIn(node.value.__class__, (int, str, bool, type(None)))

    def test_nodes_that_are_not_used(self):
        for _, node in self.each_node(*FORBIDDEN):
            self.fail(node)
        for file, node in self.each_node(ast.Starred):
            self.assertIsInstance(node.ctx, ast.Store)
        for file, node in self.each_node(ast.For, ast.While):
            self.assertEqual(node.orelse, [])
        for file, node in self.each_node(ast.FunctionDef, ast.ClassDef):
            self.assertEqual(node.decorator_list, [])
            outside = file.parents[node]
            self.assertFalse(isinstance(outside, ast.FunctionDef), "nested")

    def test_module_level(self):
        for file in FILES:
            at_the_top = True
            for number, node in enumerate(file.tree.body):
                docstring = number == 0 and isinstance(node, ast.Expr) and isinstance(node.value, ast.Constant)
                if isinstance(node, ast.ImportFrom):
                    self.assertTrue(at_the_top, file.name)
                elif not docstring:
                    at_the_top = False
                    self.assertIsInstance(node, (ast.FunctionDef, ast.ClassDef, ast.Assign), file.name)
            self.assertEqual(len(file.bound), len(set(file.bound)), file.name)
            for value in file.constants.values():
                for node in ast.walk(value):
                    self.assertNotIsInstance(node, (ast.Call, ast.ListComp, ast.DictComp, ast.SetComp, ast.Set))
                    if node is not value:
                        self.assertNotIsInstance(node, (ast.List, ast.Dict), file.name)

    def test_imports(self):
        by_name = {file.name: file for file in FILES}
        for file in FILES:
            for node in file.imports:
                self.assertEqual(node.level, 0)
                package, _, module = node.module.partition(".")
                self.assertEqual(package, "turnsame")
                for alias in node.names:
                    defined = by_name[module]
                    self.assertIsNone(alias.asname)
                    self.assertIn(alias.name, defined.bound)
                    self.assertNotIn(alias.name, defined.imported)
        self.assertEqual(FILES[[file.name for file in FILES].index("__init__")].imports, [])

    def test_imports_are_used(self):
        for file in FILES:
            used = {node.id for node in file.nodes(ast.Name)}
            for name in file.imported:
                self.assertIn(name, used, file.name)

    def test_imports_make_no_ring(self):
        ahead = {file.name: [node.module.partition(".")[2] for node in file.imports] for file in FILES}
        while ahead:
            free = [name for name in ahead if not [one for one in ahead[name] if one in ahead]]
            self.assertNotEqual(free, [], f"ring among {sorted(ahead)}")
            for name in free:
                del ahead[name]

    def test_arguments(self):
        for _, node in self.each_node(ast.arguments):
            self.assertEqual((node.vararg, node.kwarg, node.posonlyargs, node.kwonlyargs), (None, None, [], []))
            for default in node.defaults:
                self.assertIsInstance(default, (ast.Constant, ast.UnaryOp, ast.Name))

    def test_names(self):
        every_builtin = set(dir(builtins))
        for file, node in self.each_node(ast.Name, ast.arg, ast.FunctionDef, ast.ClassDef, ast.Attribute):
            outer = set(file.imported) | {one.name for one in file.classes}
            name = getattr(node, "id", getattr(node, "arg", getattr(node, "name", getattr(node, "attr", ""))))
            if name != "__init__":
                self.assertRegex(name, r"^[A-Za-z][A-Za-z0-9_]*$")
                self.assertNotIn(name, NO_NAMES)
            if isinstance(node, ast.arg) or isinstance(node, ast.Name) and isinstance(node.ctx, ast.Store):
                self.assertNotIn(name, every_builtin)
                self.assertNotIn(name, outer)
            if isinstance(node, ast.FunctionDef) and file.parents[node] is file.tree:
                self.assertNotIn(name, every_builtin)
            if isinstance(node, ast.Name) and isinstance(node.ctx, ast.Load) and name in every_builtin:
                self.assertIn(name, BUILTINS)

    def test_locals_do_not_hide_functions(self):
        for file in FILES:
            for node in file.nodes(ast.arg, ast.Name):
                if isinstance(node, ast.arg) or isinstance(node.ctx, ast.Store) and node.col_offset:
                    name = node.arg if isinstance(node, ast.arg) else node.id
                    self.assertNotIn(name, file.bound, (file.name, node.lineno))

    def test_classes(self):
        methods = method_names()
        plain = [name for name in methods if name != "__init__"]
        self.assertEqual(len(plain), len(set(plain)), "a method's name twice")
        self.assertEqual(set(methods) & assigned_attributes(), set())
        self.assertEqual(assigned_attributes() & NO_ATTRIBUTES, set())
        own = {one.name for file in FILES for one in file.classes}
        for _, node in self.each_node(ast.ClassDef):
            self.assertLessEqual(len(node.bases), 1)
            for base in node.bases:
                self.assertIn(base.id, own | {"ValueError"})
            for item in node.body:
                docstring = isinstance(item, ast.Expr) and isinstance(item.value, ast.Constant)
                self.assertTrue(docstring or isinstance(item, ast.FunctionDef))

    def test_attributes_and_methods(self):
        methods = set(method_names())
        known = methods | assigned_attributes()
        for file, node in self.each_node(ast.Attribute):
            if isinstance(node.ctx, ast.Load):
                parent = file.parents[node]
                called = isinstance(parent, ast.Call) and parent.func is node
                self.assertIn(node.attr, known | METHODS if called else known)
                if not called:
                    self.assertNotIn(node.attr, methods)

    def test_is(self):
        for _, node in self.each_node(ast.Compare):
            for sign, right in zip(node.ops, node.comparators):
                if isinstance(sign, (ast.Is, ast.IsNot)):
                    self.assertIn(getattr(right, "value", 0).__class__, (bool, type(None)))

    def test_errors(self):
        own = {one.name for file in FILES for one in file.classes}
        for _, node in self.each_node(ast.ExceptHandler):
            self.assertIn(getattr(node.type, "id", None), own | {"KeyError", "ZeroDivisionError"})
        for _, node in self.each_node(ast.Raise):
            if node.exc is not None:
                self.assertIn(node.exc.func.id, own)

    def test_iterated_at_once(self):
        for file, node in self.each_node(ast.Call):
            name = getattr(node.func, "id", "") or getattr(node.func, "attr", "")
            if not (getattr(node.func, "id", "") in AT_ONCE or getattr(node.func, "attr", "") in ("items", "keys", "values")):
                continue
            parent = file.parents[node]
            iterated = isinstance(parent, (ast.For, ast.comprehension)) and parent.iter is node
            taken = isinstance(parent, ast.Call) and getattr(parent.func, "id", "") in TAKERS
            back = name == "range" and isinstance(parent, ast.Call) and getattr(parent.func, "id", "") == "reversed"
            within = name == "range" and isinstance(parent, ast.Compare)
            self.assertTrue(iterated or taken or back or within)

    def test_loops_leave_what_they_go_over(self):
        for _, loop in self.each_node(ast.For):
            over = ast.dump(loop.iter)
            for node in ast.walk(ast.Module(loop.body, [])):
                if isinstance(node, ast.Call) and getattr(node.func, "attr", "") in CHANGES:
                    self.assertNotIn(ast.dump(node.func.value), over)
                if isinstance(node, ast.Subscript) and not isinstance(node.ctx, ast.Load):
                    self.assertNotIn(ast.dump(node.value), over)

    def test_sets(self):
        for file, node in self.each_node(ast.Call, ast.Set, ast.SetComp):
            if isinstance(node, ast.Call) and getattr(node.func, "id", "") != "set":
                continue
            parent = file.parents[node]
            asked = isinstance(parent, ast.Call) and getattr(parent.func, "id", "") in ("sorted", "len")
            self.assertTrue(asked or isinstance(parent, ast.Compare))

    def test_tables_are_only_read(self):
        tables = {
            name for file in FILES for name, value in file.constants.items() if isinstance(value, (ast.List, ast.Dict))
        }
        for file, node in self.each_node(ast.Name):
            if node.id in tables and isinstance(node.ctx, ast.Load):
                parent = file.parents[node]
                read = isinstance(parent, (ast.Subscript, ast.Compare, ast.For, ast.comprehension))
                got = isinstance(parent, ast.Attribute) and parent.attr == "get"
                self.assertTrue(read or got)
                if isinstance(parent, ast.Subscript):
                    self.assertIsInstance(parent.ctx, ast.Load)
                    above = file.parents[parent]
                    self.assertFalse(isinstance(above, ast.Call) and above.func is parent)

    def test_keywords(self):
        for file, node in self.each_node(ast.Call):
            if getattr(node.func, "id", "") not in ("sorted", "min", "max", "sum", "enumerate", "zip"):
                self.assertEqual(node.keywords, [])

    def test_powers(self):
        for _, node in self.each_node(ast.Pow):
            self.fail(node)

    def test_comprehensions_stand_in_functions(self):
        for file, node in self.each_node(ast.ListComp, ast.DictComp, ast.SetComp):
            above = file.parents[node]
            while not isinstance(above, (ast.FunctionDef, ast.Module)):
                above = file.parents[above]
            self.assertIsInstance(above, ast.FunctionDef)


if __name__ == "__main__":
    unittest.main()
