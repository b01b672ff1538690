"""The package's own files keep to the small part of Python that the program is written in."""

import ast
import builtins
import pathlib
import re
import unittest

PACKAGE = pathlib.Path(__file__).resolve().parent.parent / "farhail"

OWN_NAMES = set(
    "len range enumerate zip min max sum abs sorted reversed int str bool bytes list tuple dict set frozenset "
    "isinstance ord repr any all divmod Exception ValueError TypeError KeyError IndexError LookupError "
    "ZeroDivisionError ArithmeticError OverflowError RuntimeError NotImplementedError AttributeError "
    "StopIteration".split())
OWN_METHODS = set(
    "append clear copy count endswith extend find get index insert isalnum isalpha isdigit islower isspace "
    "isupper items join keys ljust lower lstrip partition pop remove replace reverse rfind rjust rpartition "
    "rsplit rstrip setdefault split splitlines startswith strip update upper values zfill bit_length title "
    "capitalize swapcase casefold center expandtabs removeprefix removesuffix rindex isascii isdecimal isnumeric "
    "istitle isidentifier isprintable add discard sort __init__".split())
BARRED_WORDS = set(
    "type typing typing_extensions enum Enum IntEnum StrEnum Flag IntFlag Generic Protocol ABC ABCMeta namedtuple "
    "NamedTuple TypedDict TYPE_CHECKING abstractmethod".split())
BARRED_NODES = (
    ast.With, ast.Match, ast.Global, ast.Nonlocal, ast.Yield, ast.YieldFrom, ast.AsyncFunctionDef, ast.AsyncFor,
    ast.AsyncWith, ast.Await, ast.GeneratorExp, ast.NamedExpr, ast.Import, ast.Div, ast.MatMult,
)
DEFS = (ast.FunctionDef, ast.ClassDef)


def files():
    return sorted(path for path in PACKAGE.rglob("*") if "__pycache__" not in path.parts)


def walked():
    """Each node of each file, beside the file's name."""
    return [(path.name, node) for path in files() for node in ast.walk(ast.parse(path.read_text("utf-8")))]


def top_names(path):
    body = ast.parse(path.read_text("utf-8")).body
    names = [node.name for node in body if isinstance(node, DEFS)]
    return names + [node.targets[0].id for node in body if isinstance(node, ast.Assign)]


def drawn_from(path):
    """The files that a file's import rows name, beside the names that they draw in."""
    rows = [node for node in ast.parse(path.read_text("utf-8")).body if isinstance(node, ast.ImportFrom)]
    return {row.module.split(".")[1]: [alias.name for alias in row.names] for row in rows}


def parents(tree):
    """For each node the one it stands straight in."""
    return {child: node for node in ast.walk(tree) for child in ast.iter_child_nodes(node)}


def called(node):
    """The name or the method that a call calls, None of what is no call."""
    if not isinstance(node, ast.Call):
        return None
    return node.func.attr if isinstance(node.func, ast.Attribute) else node.func.id


class LanguageTest(unittest.TestCase):

    def assert_none(self, wrongs):
        self.assertEqual(list(wrongs), [])

    def test_the_package_holds_plain_files_alone(self):
        self.assertIn(PACKAGE / "__init__.py", files())
        self.assert_none(path for path in files() if not re.fullmatch(r"[a-z_][a-z0-9_]*\.py", path.name))

    def test_signs_and_sizes(self):
        for path in files():
            lines = path.read_bytes().decode("ascii").split("\n")
            self.assertLessEqual(len(lines) - 1, 400, path)
            self.assert_none(line for line in lines if len(line) > 120 or re.search("[^ -~]", line))
        for name, node in walked():
            if isinstance(node, ast.FunctionDef):
                self.assertLessEqual(node.end_lineno - node.lineno + 1, 40, (name, node.name))

    def test_words_that_stand_nowhere(self):
        for path in files():
            words = set(re.findall(r"\w+", path.read_text("utf-8")))
            self.assert_none(words & BARRED_WORDS)
            self.assert_none(word for word in words if re.search("dataclass|overload|contextmanager", word))

    def test_imports_are_drawn_from_the_file_that_defines_the_name(self):
        for name, node in walked():
            if isinstance(node, ast.ImportFrom):
                self.assertEqual(node.level, 0, name)
                self.assertRegex(node.module, r"^farhail\.\w+$")
                source = PACKAGE / (node.module.split(".")[1] + ".py")
                self.assert_none({alias.name for alias in node.names} - set(top_names(source)))

    def test_forms_that_are_not_used(self):
        self.assert_none((name, ast.dump(node)) for name, node in walked() if isinstance(node, BARRED_NODES))
        for name, node in walked():
            if isinstance(node, (ast.For, ast.While)):
                self.assert_none(node.orelse)
            if isinstance(node, DEFS):
                self.assert_none(node.decorator_list)
            if isinstance(node, ast.FunctionDef):
                self.assertEqual((node.args.vararg, node.args.kwarg, node.args.posonlyargs), (None, None, []))
            if isinstance(node, ast.Compare) and any(isinstance(sign, (ast.Is, ast.IsNot)) for sign in node.ops):
                self.assertIsInstance(node.comparators[0], ast.Constant, (name, node.lineno))

    def test_written_values(self):
        for name, node in walked():
            if isinstance(node, ast.Constant):
                self.assertNotIsInstance(node.value, (float, complex), (name, node.lineno))
                if isinstance(node.value, str):
                    self.assertNotIn("%", node.value, (name, node.lineno))
            if isinstance(node, ast.BinOp) and isinstance(node.op, ast.Pow):
                self.assertIsInstance(node.right, ast.Constant, (name, node.lineno))

    def test_names(self):
        for name, node in walked():
            if isinstance(node, ast.Name):
                self.assertRegex(node.id, "^[A-Za-z]", (name, node.lineno))
                if node.id in dir(builtins):
                    self.assertIn(node.id, OWN_NAMES, (name, node.lineno))
                    self.assertIsInstance(node.ctx, ast.Load, (name, node.lineno))
            if isinstance(node, ast.arg):
                self.assertNotIn(node.arg, dir(builtins), (name, node.lineno))

    def test_methods(self):
        own = {node.name for name, node in walked() if isinstance(node, ast.FunctionDef)}
        for name, node in walked():
            if isinstance(node, ast.Call) and isinstance(node.func, ast.Attribute):
                self.assertIn(node.func.attr, OWN_METHODS | own, (name, node.lineno))

    def test_no_name_is_a_method_in_one_class_and_a_value_in_another(self):
        classes = [node for name, node in walked() if isinstance(node, ast.ClassDef)]
        methods = {node.name for body in classes for node in body.body if isinstance(node, ast.FunctionDef)}
        values = {node.attr for name, node in walked()
                  if isinstance(node, ast.Attribute) and isinstance(node.ctx, ast.Store)}
        self.assert_none(methods & values)
        self.assert_none((methods | values) & OWN_METHODS - {"__init__"})

    def test_what_stands_at_a_files_top(self):
        for path in files():
            for at, node in enumerate(ast.parse(path.read_text("utf-8")).body):
                docstring = at == 0 and isinstance(node, ast.Expr) and isinstance(node.value, ast.Constant)
                self.assertTrue(docstring or isinstance(node, (ast.ImportFrom, ast.Assign) + DEFS), (path, node.lineno))
                if isinstance(node, ast.Assign) and isinstance(node.value, ast.Dict):
                    self.assert_none(part for part in node.value.values if isinstance(part, (ast.List, ast.Dict)))

    def test_no_two_files_draw_from_one_another(self):
        left = {path.stem: set(drawn_from(path)) for path in files()}
        while left:
            free = [name for name in left if not left[name] & set(left)]
            self.assertTrue(free, left)
            for name in free:
                del left[name]

    def test_nothing_is_called_like_an_import_or_a_class_of_its_file(self):
        for path in files():
            tree = ast.parse(path.read_text("utf-8"))
            taken = {name for names in drawn_from(path).values() for name in names}
            taken |= {node.name for node in tree.body if isinstance(node, ast.ClassDef)}
            given = {node.arg for node in ast.walk(tree) if isinstance(node, ast.arg)}
            given |= {node.id for node in ast.walk(tree) if isinstance(node, ast.Name) and type(node.ctx) is ast.Store}
            self.assert_none(given & (taken | set(dir(builtins))))

    def test_walked_on_the_spot(self):
        walkers = "zip enumerate reversed range items keys values".split()
        takers = "list tuple dict sorted sum any all enumerate zip bytes min max".split()
        for path in files():
            tree = ast.parse(path.read_text("utf-8"))
            above = parents(tree)
            for node in ast.walk(tree):
                if called(node) in walkers:
                    holder = above[node]
                    walked_there = isinstance(holder, (ast.For, ast.comprehension)) and holder.iter is node
                    taken_there = called(holder) in takers and holder.args[0] is node
                    asked_there = isinstance(holder, ast.Compare) and isinstance(holder.ops[0], (ast.In, ast.NotIn))
                    self.assertTrue(walked_there or taken_there or asked_there, (path.name, node.lineno))

    def test_sets_are_plain_locals_or_used_up_at_once(self):
        for path in files():
            tree = ast.parse(path.read_text("utf-8"))
            above = parents(tree)
            for node in ast.walk(tree):
                if called(node) == "set" or isinstance(node, (ast.Set, ast.SetComp)):
                    holder = above[node]
                    kept = isinstance(holder, ast.Assign) and isinstance(holder.targets[0], ast.Name)
                    used = called(holder) in ("sorted", "len") or isinstance(holder, ast.Compare)
                    self.assertTrue(kept or used, (path.name, node.lineno))


if __name__ == "__main__":
    unittest.main()
