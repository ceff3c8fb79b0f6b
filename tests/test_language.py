"""The package keeps to the small part of Python that it is written in."""

import ast
import builtins
import pathlib
import re
import unittest

PACKAGE = pathlib.Path(__file__).resolve().parent.parent / "lateinputs"

NODES = {
    "Module", "Expr", "Constant", "ImportFrom", "alias", "FunctionDef", "arguments", "arg", "ClassDef", "Assign",
    "AugAssign", "If", "While", "For", "Return", "Break", "Continue", "Pass", "Call", "Attribute", "Subscript", "Slice",
    "Name", "Load", "Store", "List", "Tuple", "Dict", "BinOp", "UnaryOp", "BoolOp", "Compare", "IfExp", "ListComp",
    "comprehension", "keyword", "Add", "Sub", "Mult", "FloorDiv", "Mod", "And", "Or", "Not", "USub", "Eq", "NotEq",
    "Lt", "LtE", "Gt", "GtE", "In", "NotIn", "Is", "IsNot"}

BUILTINS = set(
    "len range enumerate zip min max sum abs sorted reversed int str bool list tuple dict set frozenset isinstance ord "
    "repr any all divmod".split())

METHODS = set(
    "append clear copy count endswith extend find get index insert isalnum isalpha isdigit islower isspace isupper items "
    "join keys ljust lower lstrip partition pop remove replace reverse rfind rjust rpartition rsplit rstrip setdefault "
    "split splitlines startswith strip update upper values zfill bit_length".split())

OWN_VALUES_OF_PYTHON = {name for kind in (str, int, list, dict, set, bytes, tuple) for name in dir(kind)}

WORDS = (
    "type typing typing_extensions enum Enum IntEnum StrEnum Flag IntFlag Generic Protocol ABC ABCMeta namedtuple "
    "NamedTuple TypedDict TYPE_CHECKING abstractmethod").split()

NOT_USED = {"register", "mro", "elements", "open", "input", "version_info", "with_traceback", "add_note", "format"}


def files():
    return sorted(PACKAGE.glob("*.py"))


def trees():
    return [(path.name, ast.parse(path.read_text(encoding="utf-8"))) for path in files()]


def nodes(*kinds):
    return [(name, node) for name, tree in trees() for node in ast.walk(tree) if isinstance(node, kinds)]


def bound_names(tree):
    found = [node.id for node in ast.walk(tree) if isinstance(node, ast.Name) and isinstance(node.ctx, ast.Store)]
    found += [node.arg for node in ast.walk(tree) if isinstance(node, ast.arg)]
    found += [node.name for node in ast.walk(tree) if isinstance(node, (ast.FunctionDef, ast.ClassDef))]
    return found


class Files(unittest.TestCase):
    def test_only_python_files_with_plain_names(self):
        for path in PACKAGE.iterdir():
            if path.name != "__pycache__":
                self.assertRegex(path.name, r"^([a-z][a-z0-9_]*|__init__)\.py$")

    def test_signs_and_sizes(self):
        for path in files():
            text = path.read_text(encoding="utf-8")
            self.assertRegex(text, r"\A[ -~\n]*\Z")
            lines = text.split("\n")
            self.assertLessEqual(len(lines), 400, path.name)
            self.assertLessEqual(max(len(line) for line in lines), 120, path.name)

    def test_words_that_stand_nowhere(self):
        for path in files():
            text = path.read_text(encoding="utf-8")
            for word in WORDS:
                self.assertNotRegex(text, r"\b%s\b" % re.escape(word), path.name)
            self.assertNotRegex(text, "dataclass|overload|contextmanager", path.name)


class Form(unittest.TestCase):
    def test_nodes(self):
        for name, node in nodes(ast.AST):
            self.assertIn(node.__class__.__name__, NODES, (name, getattr(node, "lineno", 0)))

    def test_functions(self):
        for name, node in nodes(ast.FunctionDef):
            self.assertLessEqual(node.end_lineno - node.lineno + 1, 40, node.name)
            self.assertFalse(node.decorator_list or node.args.vararg or node.args.kwarg or node.args.kwonlyargs)

    def test_loops_and_assignments(self):
        for name, node in nodes(ast.For, ast.While):
            self.assertFalse(node.orelse, (name, node.lineno))
        for name, node in nodes(ast.Assign):
            self.assertEqual(len(node.targets), 1)
            self.assertNotIsInstance(node.targets[0], (ast.Tuple, ast.List), (name, node.lineno))

    def test_imports_are_the_packages_own(self):
        for name, node in nodes(ast.ImportFrom):
            self.assertEqual(node.level, 0)
            self.assertTrue(node.module.startswith("lateinputs."))
            defined = bound_names(dict(trees())[node.module.split(".")[1] + ".py"])
            for alias in node.names:
                self.assertIn(alias.name, defined)
                self.assertIsNone(alias.asname)

    def test_no_file_draws_from_itself(self):
        draws = {name: {n.module.split(".")[1] + ".py" for n in tree.body if isinstance(n, ast.ImportFrom)}
                 for name, tree in trees()}
        while draws:
            free = [name for name in draws if not draws[name] & set(draws)]
            self.assertTrue(free, draws)
            draws = {name: draws[name] for name in draws if name not in free}

    def test_is_stands_beside_none_true_and_false(self):
        for name, node in nodes(ast.Compare):
            if isinstance(node.ops[0], (ast.Is, ast.IsNot)):
                self.assertIn(getattr(node.comparators[0], "value", 0), (None, True, False))

    def test_texts(self):
        for name, node in nodes(ast.Constant):
            self.assertIsInstance(node.value, (int, str, type(None)))
            self.assertNotIn("%", str(node.value), (name, node.lineno))


class Names(unittest.TestCase):
    def test_plain_and_not_pythons_own(self):
        for name, tree in trees():
            for bound in bound_names(tree):
                if bound != "__init__":
                    self.assertRegex(bound, r"^[A-Za-z][A-Za-z0-9_]*$", name)
                    self.assertFalse(hasattr(builtins, bound), (name, bound))
                self.assertNotIn(bound, NOT_USED)

    def test_builtins_that_are_used(self):
        for name, node in nodes(ast.Name):
            if hasattr(builtins, node.id):
                self.assertIn(node.id, BUILTINS, (name, node.lineno))

    def test_locals_are_not_called_like_imports_or_classes(self):
        for name, tree in trees():
            taken = {alias.name for node in tree.body if isinstance(node, ast.ImportFrom) for alias in node.names}
            taken |= {node.name for node in tree.body if isinstance(node, ast.ClassDef)}
            top = [node.name for node in tree.body if isinstance(node, (ast.FunctionDef, ast.ClassDef))]
            self.assertEqual(len(top), len(set(top)), name)
            for function in ast.walk(tree):
                if isinstance(function, ast.FunctionDef):
                    self.assertFalse(taken & set(bound_names(function)), (name, function.name))

    def test_methods_and_values(self):
        classes = [node for name, node in nodes(ast.ClassDef)]
        methods = {item.name for node in classes for item in node.body if isinstance(item, ast.FunctionDef)}
        stored = {node.attr for name, node in nodes(ast.Attribute) if isinstance(node.ctx, ast.Store)}
        self.assertFalse(methods & stored)
        self.assertFalse((methods - {"__init__"} | stored) & OWN_VALUES_OF_PYTHON)
        for name, node in nodes(ast.Attribute):
            self.assertIn(node.attr, methods | stored | METHODS, (name, node.lineno))
            self.assertNotIn(node.attr, NOT_USED)


if __name__ == "__main__":
    unittest.main()
