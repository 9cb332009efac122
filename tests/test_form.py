"""The package keeps to the small part of Python it is to be written in (as far as is seen from its syntax)."""

import ast
import builtins
import pathlib
import re
import unittest

PACKAGE = pathlib.Path(__file__).resolve().parent.parent / "boardglue"

STATEMENTS = (
    ast.Assign, ast.AugAssign, ast.If, ast.While, ast.For, ast.Return, ast.Break, ast.Continue, ast.Pass, ast.Raise,
    ast.Try, ast.ExceptHandler, ast.Expr, ast.FunctionDef, ast.ClassDef, ast.ImportFrom,
)
EXPRESSIONS = (
    ast.Constant, ast.List, ast.Tuple, ast.Dict, ast.Set, ast.BinOp, ast.UnaryOp, ast.BoolOp, ast.Compare, ast.IfExp,
    ast.Call, ast.keyword, ast.Attribute, ast.Subscript, ast.Slice, ast.ListComp, ast.comprehension, ast.JoinedStr,
    ast.FormattedValue, ast.Lambda, ast.Name, ast.arguments, ast.arg, ast.alias, ast.Module,
    ast.expr_context, ast.boolop, ast.unaryop, ast.cmpop, ast.operator,
)
TOP = (ast.ImportFrom, ast.FunctionDef, ast.ClassDef, ast.Assign)
OWN_OF_PYTHON = """
    len range enumerate zip min max sum abs sorted reversed int str bool list tuple dict set frozenset isinstance ord
    repr any all divmod Exception ValueError TypeError KeyError IndexError LookupError ZeroDivisionError
    ArithmeticError OverflowError RuntimeError NotImplementedError AttributeError StopIteration
""".split()
METHODS = """
    append clear copy count endswith extend find get index insert isalnum isalpha isdigit islower isspace isupper items
    join keys ljust lower lstrip partition pop remove replace reverse rfind rjust rpartition rsplit rstrip setdefault
    split splitlines startswith strip update upper values zfill bit_length __init__
""".split()
PLAIN_NAME = r"^[A-Za-z][A-Za-z0-9_]*$"
NO_WORDS = re.compile(
    r"\b(type|typing|typing_extensions|enum|Enum|IntEnum|StrEnum|Flag|IntFlag|Generic|Protocol|ABC|ABCMeta|namedtuple"
    r"|NamedTuple|TypedDict|TYPE_CHECKING|abstractmethod)\b|dataclass|overload|contextmanager"
)


def is_docstring(node):
    return isinstance(node, ast.Expr) and isinstance(node.value, ast.Constant) and isinstance(node.value.value, str)


class Form(unittest.TestCase):
    def setUp(self):
        self.files = [path for path in sorted(PACKAGE.rglob("*")) if "__pycache__" not in path.parts]
        self.texts = {path.name: path.read_text("utf-8") for path in self.files if path.is_file()}
        self.trees = {name: ast.parse(text) for name, text in self.texts.items()}

    def each(self, kinds, check):
        for name, tree in self.trees.items():
            for node in ast.walk(tree):
                if isinstance(node, kinds):
                    with self.subTest(name, line=getattr(node, "lineno", None)):
                        check(node)

    def test_files(self):
        self.assertIn("__init__.py", self.texts)
        for path in self.files:
            with self.subTest(path.name):
                self.assertTrue(path.is_file())
                self.assertRegex(path.name, r"^([a-z][a-z0-9_]*|__init__|__main__)\.py$")

    def test_signs_words_and_sizes(self):
        for name, text in self.texts.items():
            rows = text.split("\n")
            self.assertLessEqual(len(rows) - 1, 400, name)
            for number, row in enumerate(rows, start=1):
                with self.subTest(name, line=number):
                    self.assertRegex(row, r"^[ -~]{0,120}$")
                    self.assertIsNone(NO_WORDS.search(row))

    def test_functions(self):
        def check(node):
            self.assertLessEqual(node.end_lineno - node.lineno + 1, 40)
            self.assertEqual(node.decorator_list, [])
            self.assertEqual((node.args.vararg, node.args.kwarg, node.args.kwonlyargs), (None, None, []))

        self.each(ast.FunctionDef, check)

    def test_tops(self):
        for name, tree in self.trees.items():
            for place, node in enumerate(tree.body):
                with self.subTest(name, line=node.lineno):
                    self.assertTrue(isinstance(node, TOP) or (place == 0 and is_docstring(node)))

    def test_top_values_are_plain_and_bound_once(self):
        for name, tree in self.trees.items():
            bound = [node.name for node in tree.body if isinstance(node, (ast.FunctionDef, ast.ClassDef))]
            bound += [one.name for node in tree.body if isinstance(node, ast.ImportFrom) for one in node.names]
            for node in tree.body:
                if isinstance(node, ast.Assign):
                    with self.subTest(name, line=node.lineno):
                        ast.literal_eval(node.value)
                        bound.append(node.targets[0].id)
            self.assertEqual(len(bound), len(set(bound)), name)

    def test_no_local_is_called_like_a_class_or_an_import(self):
        for name, tree in self.trees.items():
            taken = {one.name for node in tree.body if isinstance(node, ast.ImportFrom) for one in node.names}
            taken |= {node.name for node in tree.body if isinstance(node, ast.ClassDef)}
            for node in ast.walk(tree):
                stored = isinstance(node, ast.Name) and isinstance(node.ctx, ast.Store) and node.id
                with self.subTest(name, line=getattr(node, "lineno", None)):
                    self.assertNotIn(node.arg if isinstance(node, ast.arg) else stored, taken)

    def test_no_name_is_a_method_and_a_value(self):
        methods, kept = set(), set()
        for tree in self.trees.values():
            for node in ast.walk(tree):
                if isinstance(node, ast.ClassDef):
                    methods |= {one.name for one in node.body if isinstance(one, ast.FunctionDef)}
                if isinstance(node, ast.Attribute) and isinstance(node.ctx, ast.Store):
                    kept.add(node.attr)
        self.assertEqual(methods & kept, set())

    def test_imports(self):
        def check(node):
            self.assertEqual(node.level, 0)
            self.assertTrue(node.module.startswith("boardglue."))
            self.assertNotIn("*", [name.name for name in node.names])

        self.each(ast.ImportFrom, check)

    def test_no_two_files_draw_from_one_another(self):
        drawn = {
            name[:-3]: {node.module.split(".")[1] for node in tree.body if isinstance(node, ast.ImportFrom)}
            for name, tree in self.trees.items()
        }
        while drawn:
            free = [name for name, others in drawn.items() if not others & set(drawn)]
            self.assertTrue(free, sorted(drawn))
            for name in free:
                drawn.pop(name)

    def test_names_are_drawn_from_the_file_that_defines_them(self):
        def check(node):
            tree = self.trees[node.module.split(".")[1] + ".py"]
            own = {one.name for one in tree.body if isinstance(one, (ast.FunctionDef, ast.ClassDef))}
            own |= {one.targets[0].id for one in tree.body if isinstance(one, ast.Assign)}
            self.assertEqual({one.name for one in node.names} - own, set())

        self.each(ast.ImportFrom, check)

    def test_statements_and_expressions(self):
        def check(node):
            self.assertIsInstance(node, STATEMENTS + EXPRESSIONS)
            self.assertNotIsInstance(node, (ast.Div, ast.MatMult))
            if isinstance(node, ast.Expr):
                self.assertTrue(isinstance(node.value, ast.Call) or is_docstring(node))
            if isinstance(node, ast.Assign):
                self.assertEqual(len(node.targets), 1)
            if isinstance(node, ast.Constant):
                self.assertNotIsInstance(node.value, (float, complex, bytes))
            if isinstance(node, (ast.For, ast.While)):
                self.assertEqual(node.orelse, [])

        self.each(ast.AST, check)

    def test_powers(self):
        def check(node):
            if isinstance(node.op, ast.Pow):
                self.assertIsInstance(node.right, ast.Constant)
                self.assertIn(node.right.value, range(65))

        self.each(ast.BinOp, check)

    def test_is_stands_beside_none_true_and_false_alone(self):
        def check(node):
            if any(isinstance(op, (ast.Is, ast.IsNot)) for op in node.ops):
                self.assertIn(ast.unparse(node.comparators[0]), ("None", "True", "False"))

        self.each(ast.Compare, check)

    def test_names(self):
        def check_name(node):
            self.assertRegex(node.id, PLAIN_NAME)
            self.assertTrue(node.id in OWN_OF_PYTHON or not hasattr(builtins, node.id), node.id)

        def check_parameter(node):
            self.assertRegex(node.arg, PLAIN_NAME)
            self.assertFalse(hasattr(builtins, node.arg), node.arg)

        self.each(ast.Name, check_name)
        self.each(ast.arg, check_parameter)

    def test_methods(self):
        own = []
        self.each(ast.FunctionDef, lambda node: own.append(node.name))

        def check(node):
            if isinstance(node.func, ast.Attribute):
                self.assertIn(node.func.attr, METHODS + own)

        self.each(ast.Call, check)


if __name__ == "__main__":
    unittest.main()
