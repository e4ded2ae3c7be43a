"""The form of the package's code: those rules of LANGUAGE.md that are easily looked up."""

import ast
import pathlib
import re
import unittest

PACKAGE = pathlib.Path(__file__).resolve().parent.parent / "farbetween"
BUILTINS = set(
    "len range enumerate zip min max sum abs sorted reversed int str bool list tuple dict set isinstance ord repr any all "
    "divmod Exception ValueError TypeError KeyError IndexError LookupError ZeroDivisionError ArithmeticError "
    "OverflowError RuntimeError NotImplementedError AttributeError StopIteration iter next".split()
)
METHODS = {"__init__", "__eq__", "__repr__", "__str__", "__len__"}
BARRED = (
    "type typing typing_extensions enum Enum IntEnum StrEnum Flag IntFlag Generic Protocol ABC ABCMeta namedtuple NamedTuple "
    "TypedDict TYPE_CHECKING abstractmethod"
).split()
NEVER = (
    "register mro elements open input version_info with_traceback add_note compile copyright credits dir eval exec exit gc "
    "getattr globals hasattr help id importlib license locals os quit setattr type vars format"
).split()
CALLED_METHODS = set(
    "append clear copy count endswith extend find get index insert isalnum isalpha isdigit islower isspace isupper items join "
    "keys ljust lower lstrip partition pop remove replace reverse rfind rjust rpartition rsplit rstrip setdefault split "
    "splitlines startswith strip update upper values zfill bit_length add discard".split()
)
AT_ONCE = {"zip", "enumerate", "reversed", "range"}
VIEWS = {"items", "keys", "values"}
TAKERS = {"list", "tuple", "dict", "sorted", "sum", "any", "all", "enumerate", "zip", "min", "max"}
LISTS_ONLY = {"any", "all", "min", "max", "sum", "sorted"}
FLAT = (ast.Constant, ast.List, ast.Tuple, ast.Dict, ast.Name, ast.UnaryOp)


def files():
    return sorted(PACKAGE.glob("**/*.py"))


def bound_names(tree):
    """Each name that is bound somewhere in a file: by an import, a function, a class, a target or a parameter."""
    for node in ast.walk(tree):
        if isinstance(node, (ast.FunctionDef, ast.ClassDef)):
            yield node.name
        elif isinstance(node, ast.arg):
            yield node.arg
        elif isinstance(node, ast.alias):
            yield node.asname or node.name
        elif isinstance(node, ast.Name) and not isinstance(node.ctx, ast.Load):
            yield node.id


def each_place(tree):
    """Each node with the one that it stands in."""
    for node in ast.walk(tree):
        for child in ast.iter_child_nodes(node):
            yield child, node


def is_call_of(node, names):
    """Whether this is a call of one of these functions, by its name."""
    return isinstance(node, ast.Call) and isinstance(node.func, ast.Name) and node.func.id in names


def called_method(node):
    """The name of the method that is called here; None where none is."""
    return node.func.attr if isinstance(node, ast.Call) and isinstance(node.func, ast.Attribute) else None


def name_of(node):
    """How a name, or an attribute of names, is written; None of all else."""
    return ast.unparse(node) if isinstance(node, (ast.Name, ast.Attribute)) else None


def gone_through(node):
    """The names and attributes that a loop over this goes through."""
    if isinstance(node, ast.Call):
        inner = list(node.args) + ([node.func.value] if called_method(node) in VIEWS else [])
        taken = is_call_of(node, AT_ONCE - {"range"}) or called_method(node) in VIEWS
        return [name for each in inner for name in gone_through(each)] if taken else []
    return [name_of(node)] if name_of(node) else []


def changed_in(body):
    """The names and attributes that are changed by these statements, by a method, an item or anew."""
    for statement in body:
        for node in ast.walk(statement):
            if called_method(node) in {"append", "clear", "extend", "insert", "pop", "remove", "reverse", "update", "setdefault"}:
                yield name_of(node.func.value)
            elif isinstance(node, ast.Subscript) and not isinstance(node.ctx, ast.Load):
                yield name_of(node.value)
            elif isinstance(node, ast.AugAssign):
                yield name_of(node.target)


class Form(unittest.TestCase):

    def each_node(self):
        for path in files():
            for node in ast.walk(ast.parse(path.read_text())):
                yield f"{path.name}:{getattr(node, 'lineno', 0)}", node

    def test_there_are_files_and_nothing_else(self):
        self.assertTrue((PACKAGE / "__init__.py").is_file())
        for path in PACKAGE.iterdir():
            if path.name != "__pycache__":
                self.assertRegex(path.name, r"^[a-z0-9_]+\.py$")

    def test_size_and_signs(self):
        for path in files():
            rows = path.read_text().split("\n")
            self.assertLessEqual(len(rows), 400, path.name)
            for at, row in enumerate(rows):
                self.assertRegex(row, r"^[ -~]{0,120}$", f"{path.name}:{at + 1}")
        for where, node in self.each_node():
            if isinstance(node, ast.FunctionDef):
                self.assertLessEqual(node.end_lineno - node.lineno + 1, 40, where)

    def test_words_that_do_not_occur(self):
        for path in files():
            for word in BARRED:
                self.assertIsNone(re.search(rf"\b{word}\b", path.read_text()), f"{path.name}: {word}")
            self.assertNotRegex(path.read_text(), "dataclass|overload|contextmanager")

    def test_imports(self):
        for path in files():
            tree = ast.parse(path.read_text())
            for node in ast.walk(tree):
                self.assertNotIsInstance(node, ast.Import, path.name)
                if isinstance(node, ast.ImportFrom):
                    self.assertIn(node, tree.body)
                    self.assertEqual(node.level, 0)
                    self.assertTrue(node.module.startswith("farbetween."), path.name)
                    there = ast.parse((PACKAGE / (node.module.split(".")[1] + ".py")).read_text())
                    made = [name for body in there.body if not isinstance(body, ast.ImportFrom) for name in bound_names(body)]
                    for alias in node.names:
                        self.assertIn(alias.name, made)

    def test_no_two_files_import_from_each_other(self):
        needs = {
            path.stem: [node.module.split(".")[1] for node in ast.parse(path.read_text()).body if isinstance(node, ast.ImportFrom)]
            for path in files()
        }
        while needs:
            free = [name for name in needs if not any(other in needs for other in needs[name])]
            self.assertTrue(free, needs)
            needs = {name: needs[name] for name in needs if name not in free}

    def test_module_level(self):
        for path in files():
            for node in ast.parse(path.read_text()).body:
                if isinstance(node, ast.Assign):
                    self.assertIsInstance(node.value, FLAT, path.name)
                elif isinstance(node, ast.Expr):
                    self.assertIsInstance(node.value, ast.Constant, path.name)
                else:
                    self.assertIsInstance(node, (ast.ImportFrom, ast.FunctionDef, ast.ClassDef), path.name)

    def test_names(self):
        for path in files():
            tree = ast.parse(path.read_text())
            hidden = {node.name for node in tree.body if isinstance(node, ast.ClassDef)}
            hidden |= {alias.name for node in tree.body if isinstance(node, ast.ImportFrom) for alias in node.names}
            for node in ast.walk(tree):
                if isinstance(node, ast.FunctionDef):
                    inner = [arg.arg for arg in node.args.args] + [
                        each.id for each in ast.walk(node) if isinstance(each, ast.Name) and isinstance(each.ctx, ast.Store)
                    ]
                    for name in inner:
                        self.assertNotIn(name, hidden, f"{path.name}:{node.lineno}")
            for name in bound_names(tree):
                if name not in METHODS:
                    self.assertRegex(name, r"^[A-Za-z][A-Za-z0-9_]*$", path.name)
                    self.assertNotIn(name, NEVER, path.name)
                    self.assertNotIn(name, BUILTINS, path.name)

    def test_only_known_builtins(self):
        for path in files():
            tree = ast.parse(path.read_text())
            known = set(bound_names(tree)) | BUILTINS
            for node in ast.walk(tree):
                if isinstance(node, ast.Name):
                    self.assertIn(node.id, known, f"{path.name}:{node.lineno}")

    def test_expressions(self):
        for where, node in self.each_node():
            self.assertNotIsInstance(node, (ast.Div, ast.GeneratorExp, ast.Global, ast.AsyncFunctionDef), where)
            if isinstance(node, ast.Constant):
                self.assertNotIsInstance(node.value, (float, complex), where)
                if isinstance(node.value, str):
                    self.assertNotIn("%", node.value, where)
            if isinstance(node, ast.Compare):
                for sign, other in zip(node.ops, node.comparators):
                    if isinstance(sign, (ast.Is, ast.IsNot)):
                        self.assertTrue(isinstance(other, ast.Constant) and other.value in (None, True, False), where)
            if isinstance(node, ast.Call) and isinstance(node.func, ast.Name) and node.func.id in LISTS_ONLY:
                for argument in node.args:
                    self.assertNotIsInstance(argument, ast.GeneratorExp, where)
            if isinstance(node, ast.Call) and isinstance(node.func, ast.Attribute):
                self.assertNotEqual(node.func.attr, "sort", where)

    def test_classes(self):
        for where, node in self.each_node():
            if isinstance(node, ast.ClassDef):
                self.assertEqual(node.decorator_list, [], where)
                for each in node.body:
                    if isinstance(each, ast.FunctionDef) and each.name.startswith("_"):
                        self.assertIn(each.name, METHODS, where)
            if isinstance(node, ast.FunctionDef):
                self.assertEqual(node.decorator_list, [], where)

    def test_raise_and_except(self):
        for where, node in self.each_node():
            if isinstance(node, ast.Raise) and node.exc is not None:
                self.assertTrue(isinstance(node.exc, ast.Call) and isinstance(node.exc.func, ast.Name), where)
            if isinstance(node, ast.ExceptHandler):
                self.assertIsInstance(node.type, (ast.Name, ast.Tuple), where)
                caught = node.type.elts if isinstance(node.type, ast.Tuple) else [node.type]
                for each in caught:
                    self.assertNotIn(each.id, ["Exception", "TypeError", "ValueError", "LookupError", "IndexError"], where)

    def test_methods_that_are_called(self):
        own = {
            each.name for where, node in self.each_node() if isinstance(node, ast.ClassDef)
            for each in node.body if isinstance(each, ast.FunctionDef)
        }
        for where, node in self.each_node():
            if called_method(node):
                self.assertIn(called_method(node), CALLED_METHODS | own, where)

    def test_no_name_is_a_method_and_an_attribute(self):
        methods, given, read = set(), set(), set()
        for path in files():
            for node, around in each_place(ast.parse(path.read_text())):
                if isinstance(node, ast.FunctionDef) and isinstance(around, ast.ClassDef):
                    methods.add(node.name)
                elif isinstance(node, ast.Attribute) and isinstance(node.ctx, ast.Store):
                    given.add(node.attr)
                elif isinstance(node, ast.Attribute) and not (isinstance(around, ast.Call) and around.func == node):
                    read.add(node.attr)
        self.assertEqual(methods & given, set())
        self.assertEqual(read - given, set())
        for name in methods | given:
            for kind in (int, str, list, dict, set, bytes):
                if not name.startswith("__"):
                    self.assertFalse(hasattr(kind, name) and name not in CALLED_METHODS, name)

    def test_no_power_but_by_a_number_written_there(self):
        for where, node in self.each_node():
            if isinstance(node, ast.BinOp) and isinstance(node.op, ast.Pow):
                self.assertTrue(isinstance(node.right, ast.Constant) and 0 <= node.right.value <= 64, where)

    def test_no_star_in_an_index(self):
        for where, node in self.each_node():
            if isinstance(node, ast.Subscript):
                self.assertFalse([each for each in ast.walk(node.slice) if isinstance(each, ast.Starred)], where)

    def test_what_is_iterated_at_once(self):
        for path in files():
            for node, around in each_place(ast.parse(path.read_text())):
                if is_call_of(node, AT_ONCE) or called_method(node) in VIEWS:
                    looped = isinstance(around, (ast.For, ast.comprehension)) and around.iter == node
                    ranged = is_call_of(node, {"range"}) and is_call_of(around, {"len", "reversed"})
                    tested = is_call_of(node, {"range"}) and isinstance(around, ast.Compare)
                    self.assertTrue(looped or ranged or tested or is_call_of(around, TAKERS), f"{path.name}:{node.lineno}")

    def test_sets_are_written_where_they_are_asked(self):
        for path in files():
            for node, around in each_place(ast.parse(path.read_text())):
                if isinstance(node, (ast.SetComp, ast.Set)) or is_call_of(node, {"set", "frozenset"}):
                    asked = is_call_of(around, {"sorted", "len"}) or isinstance(around, ast.Compare)
                    self.assertTrue(asked, f"{path.name}:{node.lineno}")

    def test_loops_do_not_change_what_they_go_through(self):
        for where, node in self.each_node():
            if isinstance(node, ast.For):
                self.assertFalse(set(gone_through(node.iter)) & set(changed_in(node.body)), where)

    def test_len_is_told_by_len(self):
        for where, node in self.each_node():
            if isinstance(node, ast.FunctionDef) and node.name == "__len__":
                told = [each.value for each in ast.walk(node) if isinstance(each, ast.Return)]
                self.assertTrue(told and all(is_call_of(each, {"len"}) for each in told), where)

    def test_calls_of_own_functions_pass_what_they_take(self):
        taken = {}
        for path in files():
            for node in ast.parse(path.read_text()).body:
                if isinstance(node, ast.FunctionDef):
                    many = len(node.args.args)
                    taken.setdefault(node.name, set()).update(range(many - len(node.args.defaults), many + 1))
        for where, node in self.each_node():
            if isinstance(node, ast.Call) and isinstance(node.func, ast.Name) and node.func.id in taken:
                self.assertFalse(node.keywords or any(isinstance(each, ast.Starred) for each in node.args), where)
                self.assertIn(len(node.args), taken[node.func.id], where)


if __name__ == "__main__":
    unittest.main()
