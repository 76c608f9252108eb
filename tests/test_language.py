"""The package's files keep to the small part of Python that the program is written in."""

import ast
import builtins
import re
import unittest
from pathlib import Path

PACKAGE = Path(__file__).resolve().parent.parent / "treeright"

SYNTAX = set("""
    Module Expr Constant ImportFrom alias FunctionDef arguments arg ClassDef Assign AugAssign AnnAssign
    If While For Return Break Continue Pass Raise Try ExceptHandler Assert Delete Call keyword
    Name Attribute Subscript Slice Starred Tuple List Dict Set ListComp DictComp SetComp comprehension
    Lambda IfExp BoolOp BinOp UnaryOp Compare JoinedStr FormattedValue Load Store Del
    Add Sub Mult FloorDiv Mod Pow LShift RShift BitAnd BitOr BitXor And Or Not USub UAdd Invert
    Eq NotEq Lt LtE Gt GtE Is IsNot In NotIn
""".split())

OWN_OF_PYTHON = set("""
    len range enumerate zip min max sum abs sorted reversed int str bool bytes list tuple dict set frozenset
    isinstance ord repr any all divmod Exception ValueError TypeError KeyError IndexError LookupError
    ZeroDivisionError ArithmeticError OverflowError RuntimeError NotImplementedError AttributeError StopIteration
""".split())

METHODS_OF_PYTHON = set("""
    append clear copy count endswith extend find get index insert isalnum isalpha isdigit islower isspace isupper
    items join keys ljust lower lstrip partition pop remove replace reverse rfind rjust rpartition rsplit rstrip
    setdefault split splitlines startswith strip update upper values zfill bit_length add discard sort
    title capitalize swapcase casefold center expandtabs removeprefix removesuffix rindex isascii isdecimal
    isnumeric istitle isidentifier isprintable translate
""".split())

DOUBLE_UNDERSCORES = {"__init__", "__eq__", "__repr__", "__str__", "__len__", "__all__", "__version__"}

NEVER_A_NAME = set("""
    register mro elements open input version_info with_traceback add_note attrgetter breakpoint builtins compile
    copyright credits delattr dir eval exec exit gc getattr globals hasattr help id importlib license locals
    methodcaller os quit setattr super type vars sys format format_map __name__
""".split())

NEVER_A_WORD = re.compile(
    r"\b(type|typing|typing_extensions|enum|Enum|IntEnum|StrEnum|Flag|IntFlag|Generic|Protocol|ABC|ABCMeta"
    r"|namedtuple|NamedTuple|TypedDict|TYPE_CHECKING|abstractmethod)\b|dataclass|overload|contextmanager")


def files():
    return sorted(path for path in PACKAGE.rglob("*") if "__pycache__" not in path.parts)


def trees():
    return [(path.name, ast.parse(path.read_text())) for path in files()]


def nodes(*kinds):
    """Each node of these kinds, beside its file's name and row."""
    return [
        (f"{name}:{getattr(node, 'lineno', 0)}", node)
        for name, tree in trees() for node in ast.walk(tree) if isinstance(node, kinds)
    ]


def names_in(node):
    """The names that a node binds or reads."""
    if isinstance(node, ast.Name):
        return [node.id]
    if isinstance(node, ast.Attribute):
        return [node.attr]
    if isinstance(node, (ast.FunctionDef, ast.ClassDef)):
        return [node.name]
    if isinstance(node, (ast.arg, ast.keyword)):
        return [node.arg]
    if isinstance(node, ast.ExceptHandler):
        return [node.name] if node.name else []
    if isinstance(node, ast.alias):
        return [node.name] + ([node.asname] if node.asname else [])
    return []


def methods():
    return {row.name for where, node in nodes(ast.ClassDef) for row in node.body if isinstance(row, ast.FunctionDef)}


def values():
    """Names of the values that objects are given."""
    return {node.attr for where, node in nodes(ast.Attribute) if isinstance(node.ctx, ast.Store)}


class Files(unittest.TestCase):
    def test_names_of_files(self):
        self.assertIn("__init__.py", [path.name for path in files()])
        for path in files():
            self.assertRegex(path.name, r"^(__init__|[a-z][a-z0-9_]*)\.py$")

    def test_signs_and_sizes(self):
        for path in files():
            text = path.read_bytes()
            self.assertTrue(all(sign == 10 or 32 <= sign <= 126 for sign in text), path.name)
            rows = text.decode("ascii").split("\n")
            self.assertLessEqual(len(rows), 400, path.name)
            self.assertLessEqual(max(len(row) for row in rows), 120, path.name)

    def test_words_that_stand_nowhere(self):
        for path in files():
            self.assertIsNone(NEVER_A_WORD.search(path.read_text()), path.name)


class Form(unittest.TestCase):
    def test_syntax(self):
        for where, node in nodes(ast.AST):
            self.assertIn(node.__class__.__name__, SYNTAX, where)

    def test_functions(self):
        for where, node in nodes(ast.FunctionDef):
            self.assertLessEqual(node.end_lineno - node.lineno + 1, 40, where)
            self.assertEqual(node.decorator_list, [], where)
            self.assertIsNone(node.args.vararg or node.args.kwarg, where)
            self.assertEqual(node.args.posonlyargs, [], where)

    def test_classes(self):
        for where, node in nodes(ast.ClassDef):
            self.assertLessEqual(len(node.bases), 1, where)
            self.assertEqual(node.decorator_list + node.keywords, [], where)
            bodies = [row for row in node.body if not isinstance(row, ast.FunctionDef)]
            self.assertTrue(all(isinstance(row, ast.Expr) for row in bodies), where)
            own = [row.name for row in node.body if isinstance(row, ast.FunctionDef)]
            self.assertEqual(len(own), len(set(own)), where)

    def test_imports(self):
        for where, node in nodes(ast.ImportFrom):
            self.assertEqual(node.level, 0, where)
            self.assertRegex(node.module, r"^treeright\.[a-z]", where)
            self.assertNotIn("*", [alias.name for alias in node.names], where)

    def test_no_two_files_draw_from_one_another(self):
        drawn = {}
        for name, tree in trees():
            rows = [node for node in ast.walk(tree) if isinstance(node, ast.ImportFrom)]
            drawn[name] = {row.module.split(".")[1] + ".py" for row in rows}
        for unused in drawn:
            for name in drawn:
                drawn[name] |= {further for other in drawn[name] for further in drawn[other]}
        for name in drawn:
            self.assertNotIn(name, drawn[name])

    def test_names_are_drawn_from_the_file_that_defines_them(self):
        tops = {name: {row.name for row in tree.body if isinstance(row, (ast.FunctionDef, ast.ClassDef))}
                | {target.id for row in tree.body if isinstance(row, ast.Assign) for target in row.targets}
                for name, tree in trees()}
        for where, node in nodes(ast.ImportFrom):
            for alias in node.names:
                self.assertIn(alias.name, tops[node.module.split(".")[1] + ".py"], where)

    def test_what_is_drawn_is_used(self):
        for name, tree in trees():
            read = {node.id for node in ast.walk(tree) if isinstance(node, ast.Name)}
            drawn = {alias.name for row in tree.body if isinstance(row, ast.ImportFrom) for alias in row.names}
            self.assertEqual(drawn - read, set(), name)

    def test_top_of_a_file(self):
        for name, tree in trees():
            bound = []
            for row in tree.body:
                self.assertIsInstance(row, (ast.Expr, ast.ImportFrom, ast.FunctionDef, ast.ClassDef, ast.Assign), name)
                if isinstance(row, ast.ImportFrom):
                    bound += [alias.asname or alias.name for alias in row.names]
                elif isinstance(row, ast.Assign):
                    bound += [target.id for target in row.targets]
                elif not isinstance(row, ast.Expr):
                    bound.append(row.name)
            self.assertEqual(len(bound), len(set(bound)), name)

    def test_constants(self):
        for where, node in nodes(ast.Constant):
            self.assertNotIsInstance(node.value, (float, complex), where)
            if isinstance(node.value, str):
                self.assertNotIn("%", node.value, where)

    def test_is_stands_beside_none_and_truths(self):
        for where, node in nodes(ast.Compare):
            for sign, right in zip(node.ops, node.comparators):
                if isinstance(sign, (ast.Is, ast.IsNot)):
                    self.assertIsInstance(right, ast.Constant, where)
                    self.assertTrue(right.value is None or isinstance(right.value, bool), where)

    def test_what_is_walked_at_once_is_not_kept(self):
        for where, node in nodes(ast.Assign, ast.Return):
            if isinstance(node.value, ast.Call):
                called = node.value.func
                word = called.id if isinstance(called, ast.Name) else called.attr
                self.assertNotIn(word, ("zip", "enumerate", "reversed", "range", "items", "keys", "values"), where)

    def test_what_a_loop_walks_is_not_changed_in_it(self):
        changes = {"append", "clear", "extend", "insert", "pop", "remove", "reverse", "setdefault", "update", "sort"}
        for where, loop in nodes(ast.For):
            walked = {ast.unparse(node) for node in ast.walk(loop.iter) if isinstance(node, (ast.Name, ast.Attribute))}
            for node in [node for row in loop.body for node in ast.walk(row)]:
                if isinstance(node, ast.Attribute) and node.attr in changes:
                    self.assertNotIn(ast.unparse(node.value), walked, where)
                if isinstance(node, ast.Subscript) and not isinstance(node.ctx, ast.Load):
                    self.assertNotIn(ast.unparse(node.value), walked, where)

    def test_loops_have_no_else(self):
        for where, node in nodes(ast.For, ast.While):
            self.assertEqual(node.orelse, [], where)


class Names(unittest.TestCase):
    def test_plain_names(self):
        for where, node in nodes(ast.AST):
            for name in names_in(node):
                if name not in DOUBLE_UNDERSCORES:
                    self.assertRegex(name, r"^[A-Za-z][A-Za-z0-9_]*$", where)
                    self.assertNotIn(name, NEVER_A_NAME, where)

    def test_names_of_pythons_own(self):
        for where, node in nodes(ast.Name):
            if node.id in dir(builtins):
                self.assertIn(node.id, OWN_OF_PYTHON, where)
                self.assertIsInstance(node.ctx, ast.Load, where)
        for where, node in nodes(ast.arg):
            self.assertNotIn(node.arg, dir(builtins), where)

    def test_parameters_and_locals_are_not_called_like_classes_and_imports(self):
        for name, tree in trees():
            taken = {alias.name for row in tree.body if isinstance(row, ast.ImportFrom) for alias in row.names}
            taken |= {row.name for row in tree.body if isinstance(row, ast.ClassDef)}
            for node in ast.walk(tree):
                if isinstance(node, ast.arg):
                    self.assertNotIn(node.arg, taken, name)
                if isinstance(node, ast.Name) and isinstance(node.ctx, ast.Store):
                    self.assertNotIn(node.id, taken | set(dir(builtins)), name)

    def test_no_name_is_a_method_and_a_value(self):
        self.assertEqual(methods() & values(), set())

    def test_called_methods_and_asked_values_are_known(self):
        for name, tree in trees():
            calls = [node.func for node in ast.walk(tree) if isinstance(node, ast.Call)]
            for node in ast.walk(tree):
                if not isinstance(node, ast.Attribute):
                    continue
                where = f"{name}:{node.lineno}"
                if any(node is call for call in calls):
                    self.assertIn(node.attr, methods() | METHODS_OF_PYTHON | DOUBLE_UNDERSCORES, where)
                else:
                    self.assertIn(node.attr, values(), where)

    def test_own_values_and_methods_are_not_called_like_pythons_own(self):
        taken = {name for kind in (str, int, list, dict, set, bytes, tuple) for name in dir(kind)}
        taken -= METHODS_OF_PYTHON | DOUBLE_UNDERSCORES
        self.assertEqual((methods() | values()) & taken, set())


if __name__ == "__main__":
    unittest.main()
