"""The package keeps to the small part of Python that it is written in, as far as a plain check can see."""

import ast
import os
import re
import unittest

import coveredstock

FOLDER = os.path.dirname(coveredstock.__file__)

NODES = (
    ast.Module, ast.FunctionDef, ast.ClassDef, ast.ImportFrom, ast.alias, ast.arguments, ast.arg, ast.Assign,
    ast.AugAssign, ast.If, ast.While, ast.For, ast.Return, ast.Break, ast.Continue, ast.Pass, ast.Raise, ast.Try,
    ast.ExceptHandler, ast.Expr, ast.Call, ast.Attribute, ast.Subscript, ast.Slice, ast.Name, ast.Constant, ast.List,
    ast.Tuple, ast.Dict, ast.ListComp, ast.comprehension, ast.BinOp, ast.UnaryOp, ast.BoolOp, ast.Compare, ast.IfExp,
    ast.operator, ast.unaryop, ast.boolop, ast.cmpop, ast.expr_context, ast.keyword,
)

BUILT_IN = """
    len range enumerate zip min max sum abs sorted reversed int str bool list tuple dict set frozenset isinstance ord
    repr any all divmod Exception ValueError KeyError IndexError LookupError ZeroDivisionError
""".split()

METHODS = """
    append clear copy count endswith extend find get index insert items join keys pop remove replace reverse
    setdefault split startswith strip update values
""".split()

WORDS = """
    type typing typing_extensions enum Enum IntEnum StrEnum Flag IntFlag Generic Protocol ABC ABCMeta namedtuple
    NamedTuple TypedDict TYPE_CHECKING abstractmethod
""".split()

UNUSED_NAMES = """
    register mro elements open input version_info with_traceback add_note attrgetter breakpoint builtins compile
    copyright credits delattr dir eval exec exit gc getattr globals hasattr help id importlib license locals
    methodcaller os quit setattr super vars sys hash next map format iter filter object print chr
""".split()


def texts():
    """The package's files by name."""
    found = {}
    for name in sorted(os.listdir(FOLDER)):
        if name != "__pycache__":
            with open(os.path.join(FOLDER, name), encoding="utf-8", newline="") as file:
                found[name] = file.read()
    return found


def nodes(text):
    return list(ast.walk(ast.parse(text)))


def bound_names(text):
    """All names that a file gives to something."""
    names = []
    for node in nodes(text):
        if isinstance(node, (ast.FunctionDef, ast.ClassDef)):
            names.append(node.name)
        elif isinstance(node, ast.arg):
            names.append(node.arg)
        elif isinstance(node, ast.alias):
            names.append(node.asname or node.name)
        elif isinstance(node, ast.Name) and isinstance(node.ctx, ast.Store):
            names.append(node.id)
    return names


class LanguageTest(unittest.TestCase):
    def test_files_names_and_signs(self):
        for name, text in texts().items():
            self.assertRegex(name, r"^[a-z0-9_]+\.py$")
            self.assertEqual(re.findall(r"[^ -~\n]", text), [], name)

    def test_sizes(self):
        for name, text in texts().items():
            rows = text.split("\n")
            self.assertLessEqual(len(rows), 399, name)
            self.assertLessEqual(max(len(row) for row in rows), 120, name)
            for node in nodes(text):
                if isinstance(node, ast.FunctionDef):
                    self.assertLessEqual(node.end_lineno - node.lineno + 1, 40, (name, node.name))

    def test_statements_and_expressions(self):
        for name, text in texts().items():
            for node in nodes(text):
                self.assertIsInstance(node, NODES, (name, getattr(node, "lineno", None)))
                self.assertNotIsInstance(node, (ast.Div, ast.MatMult, ast.Starred), name)
                if isinstance(node, (ast.For, ast.While)):
                    self.assertEqual(node.orelse, [], name)
                if isinstance(node, ast.Assign):
                    self.assertEqual(len(node.targets), 1, name)
                if isinstance(node, (ast.FunctionDef, ast.ClassDef)):
                    self.assertEqual(node.decorator_list, [], name)
                if isinstance(node, ast.arguments):
                    self.assertEqual((node.vararg, node.kwarg, node.kwonlyargs, node.posonlyargs), (None, None, [], []))
                if isinstance(node, ast.Constant):
                    self.assertIn(type(node.value), (int, str, bool, type(None)), name)
                if isinstance(node, ast.ListComp):
                    self.assertEqual((len(node.generators), len(node.generators[0].ifs) < 2), (1, True), name)

    def test_imports_come_from_the_package_without_circles(self):
        drawn = {}
        for name, text in texts().items():
            drawn[name] = set()
            for node in nodes(text):
                if isinstance(node, ast.ImportFrom):
                    self.assertEqual(node.level, 0, name)
                    self.assertRegex(node.module, r"^coveredstock\.[a-z_]+$")
                    drawn[name].add(node.module.split(".")[1] + ".py")
        left = sorted(drawn)
        while left:
            free = [name for name in left if not drawn[name] & set(left)]
            self.assertNotEqual(free, [], f"these draw from one another: {left}")
            left = [name for name in left if name not in free]

    def test_the_top_of_a_file(self):
        for name, text in texts().items():
            tree = ast.parse(text)
            self.assertIsNotNone(ast.get_docstring(tree), name)
            for node in tree.body[1:]:
                self.assertIsInstance(node, (ast.ImportFrom, ast.FunctionDef, ast.ClassDef, ast.Assign), name)

    def test_names(self):
        for name, text in texts().items():
            own = bound_names(text)
            for bound in own:
                self.assertRegex(bound, r"^([A-Za-z][A-Za-z0-9_]*|__init__)$", name)
                self.assertNotIn(bound, BUILT_IN + UNUSED_NAMES, name)
            for node in nodes(text):
                if isinstance(node, ast.Name):
                    self.assertIn(node.id, own + BUILT_IN, name)
                if isinstance(node, ast.Call) and isinstance(node.func, ast.Attribute):
                    self.assertIn(node.func.attr, METHODS, name)
            self.assertEqual([word for word in re.findall(r"\w+", text) if word in WORDS], [], name)

    def test_a_name_stands_once_at_the_top(self):
        for name, text in texts().items():
            top = []
            for node in ast.parse(text).body:
                if isinstance(node, (ast.FunctionDef, ast.ClassDef)):
                    top.append(node.name)
                elif isinstance(node, ast.ImportFrom):
                    top.extend(one.name for one in node.names)
                elif isinstance(node, ast.Assign):
                    top.append(node.targets[0].id)
            self.assertEqual(len(top), len(set(top)), name)

    def test_the_interface_stands_in_its_file(self):
        for name, text in texts().items():
            made = [node.name for node in ast.parse(text).body if isinstance(node, (ast.FunctionDef, ast.ClassDef))]
            self.assertEqual(made.count("answers"), 1 if name == "planner.py" else 0, name)


if __name__ == "__main__":
    unittest.main()
