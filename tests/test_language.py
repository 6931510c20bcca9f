"""That the package keeps to the small part of Python it is written in, as far as its form shows it."""

import ast
import builtins
import pathlib
import re
import unittest

PACKAGE = pathlib.Path(__file__).resolve().parent.parent / "hearsaybook"

OWN_NAMES = set(
    "len range enumerate zip min max sum abs sorted reversed int str bool bytes list tuple dict set frozenset "
    "isinstance ord repr any all divmod Exception ValueError TypeError KeyError IndexError LookupError "
    "ZeroDivisionError ArithmeticError OverflowError RuntimeError NotImplementedError AttributeError "
    "StopIteration".split())
METHODS = set(
    "append clear copy count endswith extend find get index insert isalnum isalpha isdigit islower isspace isupper "
    "items join keys ljust lower lstrip partition pop remove replace reverse rfind rjust rpartition rsplit rstrip "
    "setdefault split splitlines startswith strip update upper values zfill bit_length add discard sort "
    "__init__".split())
NODES = (
    ast.Module, ast.FunctionDef, ast.arguments, ast.arg, ast.ClassDef, ast.Return, ast.Delete, ast.Assign,
    ast.AugAssign, ast.For, ast.While, ast.If, ast.Raise, ast.Try, ast.Assert, ast.ImportFrom, ast.alias, ast.Expr,
    ast.Pass, ast.Break, ast.Continue, ast.BoolOp, ast.BinOp, ast.UnaryOp, ast.Lambda, ast.IfExp, ast.Dict, ast.Set,
    ast.ListComp, ast.SetComp, ast.DictComp, ast.comprehension, ast.Compare, ast.Call, ast.keyword, ast.Constant,
    ast.Attribute, ast.Subscript, ast.Name, ast.List, ast.Tuple, ast.Slice, ast.JoinedStr, ast.FormattedValue,
    ast.ExceptHandler, ast.expr_context, ast.boolop, ast.operator, ast.unaryop, ast.cmpop)
BARRED_WORDS = re.compile(
    r"\b(type|typing|typing_extensions|enum|Enum|IntEnum|StrEnum|Flag|IntFlag|Generic|Protocol|ABC|ABCMeta|namedtuple"
    r"|NamedTuple|TypedDict|TYPE_CHECKING|abstractmethod)\b|dataclass|overload|contextmanager")


def files():
    return sorted(PACKAGE.glob("*.py"))


def trees():
    return {path.stem: ast.parse(path.read_text()) for path in files()}


def drawn(tree):
    """The (module, name) that a file draws in."""
    rows = [row for row in tree.body if isinstance(row, ast.ImportFrom)]
    return [(row.module, each.name) for row in rows for each in row.names]


def defined(tree):
    """The names that a file binds at its top, but imports."""
    names = []
    for row in tree.body:
        if isinstance(row, (ast.FunctionDef, ast.ClassDef)):
            names.append(row.name)
        elif isinstance(row, ast.Assign):
            names += [target.id for target in row.targets]
    return names


def bound_within(tree):
    """The parameters and locals of a file's defs."""
    names = [node.arg for node in ast.walk(tree) if isinstance(node, ast.arg)]
    top = {target for row in tree.body if isinstance(row, ast.Assign) for target in row.targets}
    names += [node.id for node in ast.walk(tree)
              if isinstance(node, ast.Name) and isinstance(node.ctx, ast.Store) and node not in top]
    return names


class Files(unittest.TestCase):
    def test_nothing_else_lies_in_the_package(self):
        others = [path.name for path in PACKAGE.iterdir() if path.name != "__pycache__" and path.suffix != ".py"]
        self.assertEqual(others, [])
        for path in files():
            self.assertRegex(path.name, r"^([a-z][a-z0-9_]*|__init__)\.py$")

    def test_signs_and_sizes(self):
        for path in files():
            text = path.read_bytes().decode("ascii")
            rows = text.splitlines()
            self.assertLessEqual(len(rows), 400, path)
            for row in rows:
                self.assertLessEqual(len(row), 120, path)
                self.assertTrue(all(" " <= sign <= "~" for sign in row), (path, row))
            self.assertIsNone(BARRED_WORDS.search(text), path)


class Form(unittest.TestCase):
    def test_only_what_is_told_stands_there(self):
        for name, tree in trees().items():
            for node in ast.walk(tree):
                self.assertIsInstance(node, NODES, (name, getattr(node, "lineno", 0)))
                self.assertFalse(isinstance(node, ast.Div), (name, "/"))

    def test_written_values(self):
        for name, tree in trees().items():
            for node in ast.walk(tree):
                if isinstance(node, ast.Constant):
                    self.assertIn(type(node.value), (int, str, bool, type(None)), (name, node.lineno))
                    self.assertNotIn("%", str(node.value), (name, node.lineno))

    def test_sizes_of_functions(self):
        for name, tree in trees().items():
            for node in ast.walk(tree):
                if isinstance(node, ast.FunctionDef):
                    self.assertLessEqual(node.end_lineno - node.lineno + 1, 40, (name, node.name))
                    self.assertEqual(node.decorator_list, [], (name, node.name))
                    self.assertIsNone(node.args.vararg or node.args.kwarg, (name, node.name))

    def test_names(self):
        for name, tree in trees().items():
            known = OWN_NAMES | set(defined(tree)) | {each for module, each in drawn(tree)} | set(bound_within(tree))
            for node in ast.walk(tree):
                if isinstance(node, ast.Name):
                    self.assertIn(node.id, known, (name, node.lineno))
                    self.assertRegex(node.id, r"^[A-Za-z]\w*$")

    def test_each_name_once(self):
        for name, tree in trees().items():
            top = defined(tree) + [each for module, each in drawn(tree)]
            self.assertEqual(len(top), len(set(top)), name)
            classes = [row.name for row in tree.body if isinstance(row, ast.ClassDef)]
            taken = set(classes) | {each for module, each in drawn(tree)} | set(dir(builtins)) | OWN_NAMES
            self.assertEqual(sorted(set(bound_within(tree)) & taken), [], name)

    def test_methods(self):
        told = {node.attr for tree in trees().values() for node in ast.walk(tree)
                if isinstance(node, ast.Attribute) and isinstance(node.ctx, ast.Store)}
        for tree in trees().values():
            for node in tree.body:
                if isinstance(node, ast.ClassDef):
                    told |= {each.name for each in node.body if isinstance(each, ast.FunctionDef)}
        for name, tree in trees().items():
            for node in ast.walk(tree):
                if isinstance(node, ast.Attribute):
                    self.assertIn(node.attr, METHODS | told, (name, node.lineno))


class Imports(unittest.TestCase):
    def test_each_name_is_drawn_from_the_file_that_defines_it(self):
        found = trees()
        for name, tree in found.items():
            for module, each in drawn(tree):
                package, file = module.split(".")
                self.assertEqual(package, "hearsaybook", name)
                self.assertIn(each, defined(found[file]), name)

    def test_each_drawn_name_is_used(self):
        for name, tree in trees().items():
            used = {node.id for node in ast.walk(tree) if isinstance(node, ast.Name)}
            self.assertEqual([each for module, each in drawn(tree) if each not in used], [], name)

    def test_no_two_files_draw_from_one_another(self):
        below = {name: {module.split(".")[1] for module, each in drawn(tree)} for name, tree in trees().items()}
        while below:
            free = [name for name, others in below.items() if not others & set(below)]
            self.assertTrue(free, sorted(below))
            below = {name: others for name, others in below.items() if name not in free}


if __name__ == "__main__":
    unittest.main()
