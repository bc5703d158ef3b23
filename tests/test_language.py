"""The form of the code: rules that can be seen in the files of the package."""

import ast
import builtins
import pathlib
import re
import unittest

import roundpromises

FOLDER = pathlib.Path(roundpromises.__file__).parent
FILES = {path.name: path.read_text() for path in sorted(FOLDER.glob("*.py"))}
TREES = {name: ast.parse(text) for name, text in FILES.items()}

BUILTINS = set(
    """len range enumerate zip min max sum abs sorted reversed int str bool list tuple dict set frozenset
isinstance ord repr any all divmod ValueError""".split()
)
METHODS = set("append bit_length extend get index items join keys pop split values setdefault".split())
ITERATED = {"zip", "enumerate", "reversed", "range"}
TAKERS = {"list", "tuple", "dict", "sorted", "sum", "any", "all", "enumerate", "zip"}
BARRED = """
register mro elements open input law version_info with_traceback add_note attrgetter breakpoint builtins
compile copyright credits delattr dir eval exec exit gc getattr globals hasattr help id importlib license
locals methodcaller os quit setattr super type vars sys typing enum Enum Flag Generic Protocol ABC namedtuple
NamedTuple dataclass
""".split()
STATEMENTS = (
    ast.FunctionDef,
    ast.ClassDef,
    ast.ImportFrom,
    ast.Assign,
    ast.AugAssign,
    ast.Expr,
    ast.If,
    ast.For,
    ast.While,
    ast.Return,
    ast.Raise,
    ast.Break,
    ast.Continue,
    ast.Pass,
    ast.Delete,
    ast.Try,
)
UNUSED = (
    ast.GeneratorExp,
    ast.SetComp,
    ast.Set,
    ast.Starred,
    ast.NamedExpr,
    ast.JoinedStr,
    ast.Div,
    ast.MatMult,
    ast.Await,
    ast.Yield,
    ast.YieldFrom,
    ast.Global,
    ast.Nonlocal,
    ast.Pow,
)


def parents(tree):
    return {child: node for node in ast.walk(tree) for child in ast.iter_child_nodes(node)}


def called(node):
    return node.func.id if isinstance(node, ast.Call) and isinstance(node.func, ast.Name) else None


def own_names():
    """The functions, classes and methods that the package defines."""
    return {
        node.name
        for tree in TREES.values()
        for node in ast.walk(tree)
        if isinstance(node, (ast.FunctionDef, ast.ClassDef))
    }


class Language(unittest.TestCase):
    def nodes(self, *kinds):
        for name, tree in TREES.items():
            for node in ast.walk(tree):
                if isinstance(node, kinds):
                    yield name, node

    def test_characters_and_sizes(self):
        for name, text in FILES.items():
            self.assertTrue(all(sign == "\n" or " " <= sign <= "~" for sign in text), name)
            self.assertTrue(text.endswith("\n"), name)
            lines = text.split("\n")
            self.assertLessEqual(len(lines), 399, name)
            self.assertLessEqual(max(map(len, lines)), 120, name)
            self.assertNotIn("\\", text.replace('"\\n"', ""), name)
        for name, node in self.nodes(ast.FunctionDef):
            self.assertLessEqual(node.end_lineno - node.lineno + 1, 40, (name, node.name))

    def test_words_that_are_barred(self):
        for name, node in self.nodes(
            ast.Name, ast.arg, ast.Attribute, ast.FunctionDef, ast.ClassDef, ast.alias, ast.keyword
        ):
            words = [getattr(node, part, None) for part in ("id", "arg", "attr", "name")]
            for word in words:
                self.assertNotIn(word, BARRED, name)
        for name, node in self.nodes(ast.Constant):
            self.assertNotIsInstance(node.value, (float, complex, bytes), name)
            if isinstance(node.value, str):
                self.assertNotIn("%", node.value, name)
                self.assertIsNone(re.search(r"[{}]|__|\._", node.value), name)

    def test_statements(self):
        for name, node in self.nodes(ast.stmt):
            self.assertIsInstance(node, STATEMENTS, (name, node.lineno))
        for name, node in self.nodes(*UNUSED):
            self.fail((name, getattr(node, "lineno", node)))
        for name, node in self.nodes(ast.Dict):
            self.assertTrue(None not in node.keys or len(node.keys) == 2, name)

    def test_module_level(self):
        for name, tree in TREES.items():
            first, *body = tree.body
            self.assertIsInstance(first.value.value, str, name)
            imports = True
            for node in body:
                self.assertIsInstance(node, (ast.ImportFrom, ast.FunctionDef, ast.ClassDef, ast.Assign), name)
                if isinstance(node, ast.ImportFrom):
                    self.assertTrue(imports, name)
                else:
                    imports = False
                if isinstance(node, ast.Assign):
                    self.assertEqual(len(node.targets), 1)
                    self.assertFalse([part for part in ast.walk(node.value) if isinstance(part, ast.Call)], name)

    def test_imports_name_the_file_that_defines(self):
        for name, node in self.nodes(ast.ImportFrom):
            self.assertEqual(node.level, 0)
            package, _, module = node.module.partition(".")
            self.assertEqual(package, "roundpromises")
            defined = {part.name for part in TREES[module + ".py"].body if hasattr(part, "name")}
            defined |= {part.targets[0].id for part in TREES[module + ".py"].body if isinstance(part, ast.Assign)}
            for alias in node.names:
                self.assertIsNone(alias.asname)
                self.assertIn(alias.name, defined, name)

    def test_imports_are_used(self):
        for name, tree in TREES.items():
            used = {node.id for node in ast.walk(tree) if isinstance(node, ast.Name)}
            for node in ast.walk(tree):
                if isinstance(node, ast.ImportFrom):
                    for alias in node.names:
                        self.assertIn(alias.name, used, name)

    def test_names_bound_once(self):
        for name, tree in TREES.items():
            bound = [alias.name for node in tree.body if isinstance(node, ast.ImportFrom) for alias in node.names]
            imported = set(bound)
            bound += [node.name for node in tree.body if hasattr(node, "name")]
            bound += [node.targets[0].id for node in tree.body if isinstance(node, ast.Assign)]
            self.assertEqual(len(bound), len(set(bound)), name)
            classes = {node.name for node in tree.body if isinstance(node, ast.ClassDef)}
            for node in ast.walk(tree):
                inner = None
                if isinstance(node, ast.arg):
                    inner = node.arg
                elif isinstance(node, ast.Name) and isinstance(node.ctx, ast.Store):
                    inner = node.id
                if inner is not None:
                    self.assertNotIn(inner, imported | classes, name)
                    self.assertFalse(hasattr(builtins, inner), (name, inner))
            for word in bound:
                self.assertFalse(hasattr(builtins, word), (name, word))

    def test_only_known_builtins_and_methods(self):
        own = own_names()
        for name, tree in TREES.items():
            stored = {
                node.id for node in ast.walk(tree) if isinstance(node, ast.Name) and isinstance(node.ctx, ast.Store)
            }
            stored |= {node.arg for node in ast.walk(tree) if isinstance(node, ast.arg)}
            stored |= {node.name for node in ast.walk(tree) if isinstance(node, ast.ExceptHandler)}
            stored |= {
                alias.name for node in ast.walk(tree) if isinstance(node, ast.ImportFrom) for alias in node.names
            }
            for node in ast.walk(tree):
                if isinstance(node, ast.Name) and node.id not in stored:
                    self.assertTrue(node.id in BUILTINS | own, (name, node.id))
                if isinstance(node, ast.Call) and isinstance(node.func, ast.Attribute):
                    self.assertTrue(node.func.attr in METHODS | own, (name, node.func.attr))

    def test_classes(self):
        for name, node in self.nodes(ast.ClassDef):
            self.assertEqual(node.decorator_list, [])
            for part in node.body:
                self.assertIsInstance(part, (ast.FunctionDef, ast.Expr), name)
                if isinstance(part, ast.FunctionDef) and part.name.startswith("__"):
                    self.assertIn(part.name, ("__init__", "__eq__", "__len__"))
        for name, node in self.nodes(ast.FunctionDef):
            self.assertEqual(
                (node.decorator_list, node.args.defaults, node.args.vararg, node.args.kwarg), ([], [], None, None)
            )
            self.assertTrue(
                node.name in ("__init__", "__eq__", "__len__") or ast.get_docstring(node), (name, node.name)
            )

    def test_is_only_with_none_and_bools(self):
        for name, node in self.nodes(ast.Compare):
            for sign, other in zip(node.ops, node.comparators):
                if isinstance(sign, (ast.Is, ast.IsNot)):
                    self.assertIsInstance(other, ast.Constant, name)
                    self.assertIn(other.value, (None, True, False))

    def test_sets_are_written_where_they_are_used(self):
        for name, tree in TREES.items():
            above = parents(tree)
            for node in ast.walk(tree):
                if called(node) == "set":
                    self.assertIn(called(above[node]), ("sorted", "len"), (name, node.lineno))
                    self.assertEqual(above[node].keywords, [])

    def test_views_are_iterated_at_once(self):
        for name, tree in TREES.items():
            above = parents(tree)
            for node in ast.walk(tree):
                views = (
                    isinstance(node, ast.Call)
                    and isinstance(node.func, ast.Attribute)
                    and node.func.attr in ("items", "keys", "values")
                )
                if called(node) in ITERATED or views:
                    over = above[node]
                    fits = isinstance(over, (ast.For, ast.comprehension)) and over.iter is node
                    fits = fits or (called(over) in TAKERS and over.args[0] is node)
                    fits = fits or (called(over) == "reversed" and called(node) == "range")
                    self.assertTrue(fits, (name, node.lineno))

    def test_only_own_errors_are_caught(self):
        own = {node.name for node in TREES["errors.py"].body if isinstance(node, ast.ClassDef)}
        for name, node in self.nodes(ast.ExceptHandler):
            self.assertIsInstance(node.type, ast.Name, name)
            self.assertIn(node.type.id, own, name)

    def test_finally(self):
        """What stands there is put back, if nothing went well: no call, no item, nothing that can fail."""
        for name, node in self.nodes(ast.Try):
            for part in node.finalbody:
                for inner in ast.walk(part):
                    self.assertNotIsInstance(inner, (ast.Call, ast.Subscript, ast.Return, ast.BinOp), name)

    def test_names_of_classes(self):
        for name, node in self.nodes(ast.Attribute):
            if node.attr.startswith("__"):
                self.assertEqual(name, "errors.py")
                self.assertIn(ast.unparse(node), ("self.__class__.__name__", "self.__class__"))

    def test_no_name_is_a_method_and_an_attribute(self):
        methods = {part.name for _, node in self.nodes(ast.ClassDef) for part in node.body if hasattr(part, "name")}
        for name, node in self.nodes(ast.Attribute):
            if isinstance(node.ctx, ast.Store):
                self.assertNotIn(node.attr, methods, name)

    def test_raises_own_errors_on_the_spot(self):
        own = own_names()
        for name, node in self.nodes(ast.Raise):
            self.assertIn(called(node.exc), own, name)
            self.assertIsNone(node.cause)


if __name__ == "__main__":
    unittest.main()
