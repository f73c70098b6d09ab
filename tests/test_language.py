"""Holds the package's files against the rules of form that a look at the source can see."""

import ast
import builtins
import re
import unittest
from pathlib import Path

PACKAGE = Path(__file__).resolve().parent.parent / "spreadwords"
FILES = sorted(path for path in PACKAGE.rglob("*") if "__pycache__" not in path.parts and path.is_file())

OWN_ERRORS = """Exception ValueError TypeError KeyError IndexError LookupError ZeroDivisionError ArithmeticError
    OverflowError RuntimeError NotImplementedError AttributeError StopIteration""".split()
BUILT_IN = """len range enumerate zip min max sum abs sorted reversed int str bool list tuple dict set frozenset
    isinstance ord repr any all divmod""".split() + OWN_ERRORS
METHODS = """append clear copy count endswith extend find get index insert isalnum isalpha isdigit islower isspace
    isupper items join keys ljust lower lstrip partition pop remove replace reverse rfind rjust rpartition rsplit
    rstrip setdefault split splitlines startswith strip update upper values zfill bit_length""".split()
WALKED = ["zip", "enumerate", "reversed", "range"]
WORDS_NOWHERE = """type typing typing_extensions enum Enum IntEnum StrEnum Flag IntFlag Generic Protocol ABC ABCMeta
    namedtuple NamedTuple TypedDict TYPE_CHECKING abstractmethod""".split()
NAMES_NOWHERE = "register mro elements open input version_info with_traceback add_note".split()
NODES = (ast.Module, ast.ImportFrom, ast.alias, ast.FunctionDef, ast.ClassDef, ast.arguments, ast.arg, ast.Lambda,
         ast.Assign, ast.AugAssign, ast.If, ast.While, ast.For, ast.Return, ast.Break, ast.Continue, ast.Pass,
         ast.Raise, ast.Try, ast.ExceptHandler, ast.Expr, ast.Constant, ast.List, ast.Tuple, ast.Dict, ast.Set,
         ast.BinOp, ast.UnaryOp, ast.BoolOp, ast.Compare, ast.IfExp, ast.Call, ast.Attribute, ast.Subscript,
         ast.Slice, ast.ListComp, ast.comprehension, ast.JoinedStr, ast.FormattedValue, ast.Name, ast.keyword,
         ast.expr_context, ast.operator, ast.unaryop, ast.boolop, ast.cmpop)


def bound_in(tree):
    """Every name that a file binds, at its top or in its functions."""
    names = set()
    for node in ast.walk(tree):
        if isinstance(node, (ast.FunctionDef, ast.ClassDef)):
            names.add(node.name)
        elif isinstance(node, ast.alias):
            names.add(node.name)
        elif isinstance(node, ast.arg):
            names.add(node.arg)
        elif isinstance(node, ast.Name) and isinstance(node.ctx, ast.Store):
            names.add(node.id)
        elif isinstance(node, ast.ExceptHandler) and node.name:
            names.add(node.name)
    return names


class Language(unittest.TestCase):
    def each_node(self):
        for path in FILES:
            tree = ast.parse(path.read_text())
            for node in ast.walk(tree):
                yield f"{path.name}:{getattr(node, 'lineno', 0)}", node

    def test_files(self):
        self.assertTrue((PACKAGE / "__init__.py") in FILES)
        for path in FILES:
            self.assertRegex(path.name, r"^[a-z0-9_]+\.py$")
            self.assertEqual(path.parent, PACKAGE)

    def test_signs_and_sizes(self):
        for path in FILES:
            text = path.read_bytes().decode("ascii")
            self.assertRegex(text, r"\A[ -~\n]*\Z", path.name)
            lines = text.split("\n")
            self.assertLessEqual(len(lines), 400, path.name)
            self.assertLessEqual(max(len(line) for line in lines), 120, path.name)
            for word in WORDS_NOWHERE:
                self.assertIsNone(re.search(rf"\b{word}\b", text), (path.name, word))

    def test_functions_are_short_and_plain(self):
        for where, node in self.each_node():
            if isinstance(node, ast.FunctionDef):
                self.assertLessEqual(node.end_lineno - node.lineno + 1, 40, where)
                self.assertEqual(node.decorator_list, [], where)
                self.assertFalse(node.args.vararg or node.args.kwarg or node.args.kwonlyargs, where)

    def test_only_the_sorts_of_steps_that_are_allowed(self):
        for where, node in self.each_node():
            self.assertIsInstance(node, NODES, where)
            self.assertNotIsInstance(node, (ast.Div, ast.MatMult), where)
            if isinstance(node, ast.Assign):
                self.assertEqual(len(node.targets), 1, where)
                self.assertIsInstance(node.targets[0], (ast.Name, ast.Attribute, ast.Subscript), where)
            if isinstance(node, (ast.For, ast.While)):
                self.assertEqual(node.orelse, [], where)
            if isinstance(node, ast.ListComp):
                self.assertEqual(len(node.generators), 1, where)
                self.assertLessEqual(len(node.generators[0].ifs), 1, where)
            if isinstance(node, ast.Expr):
                self.assertIsInstance(node.value, (ast.Call, ast.Constant), where)

    def test_docstrings_stand_at_a_files_top_alone(self):
        for path in FILES:
            tree = ast.parse(path.read_text())
            remarks = [node for node in ast.walk(tree) if isinstance(node, ast.Expr)
                       and isinstance(node.value, ast.Constant)]
            self.assertEqual(remarks, tree.body[:1], path.name)

    def test_imports(self):
        for where, node in self.each_node():
            if isinstance(node, ast.ImportFrom):
                self.assertEqual(node.level, 0, where)
                self.assertRegex(node.module, r"^spreadwords\.[a-z0-9_]+$", where)
                tree = ast.parse((PACKAGE / (node.module.split(".")[1] + ".py")).read_text())
                defined = {part.name for part in tree.body if isinstance(part, (ast.FunctionDef, ast.ClassDef))}
                for name in node.names:
                    self.assertIsNone(name.asname, where)
                    self.assertIn(name.name, defined, where)

    def test_no_two_files_draw_from_one_another(self):
        drawn = {path.stem: {node.module.split(".")[1] for node in ast.walk(ast.parse(path.read_text()))
                             if isinstance(node, ast.ImportFrom)} for path in FILES}
        while drawn:
            free = [name for name in drawn if not drawn[name] & set(drawn)]
            self.assertNotEqual(free, [], sorted(drawn))
            drawn = {name: drawn[name] for name in drawn if name not in free}

    def test_names_of_a_files_top_stand_there_once(self):
        for path in FILES:
            names = []
            for node in ast.parse(path.read_text()).body:
                if isinstance(node, ast.ImportFrom):
                    names += [part.name for part in node.names]
                elif isinstance(node, (ast.FunctionDef, ast.ClassDef)):
                    names.append(node.name)
                elif isinstance(node, ast.Assign):
                    names.append(node.targets[0].id)
            self.assertEqual(len(names), len(set(names)), path.name)

    def test_two_like_lambdas_do_not_stand_on_one_line(self):
        lambdas = [(where, ast.unparse(node.args)) for where, node in self.each_node() if isinstance(node, ast.Lambda)]
        self.assertEqual(len(lambdas), len(set(lambdas)))

    def test_names(self):
        for path in FILES:
            tree = ast.parse(path.read_text())
            bound = bound_in(tree)
            for name in bound - {"__init__", "__eq__", "__repr__", "__str__", "__len__"}:
                self.assertRegex(name, r"^[A-Za-z][A-Za-z0-9_]*$", path.name)
                self.assertFalse(hasattr(builtins, name), (path.name, name))
                self.assertNotIn(name, NAMES_NOWHERE, path.name)
            for node in ast.walk(tree):
                if isinstance(node, ast.Name) and isinstance(node.ctx, ast.Load):
                    self.assertIn(node.id, bound | set(BUILT_IN), path.name)

    def test_no_local_is_called_like_an_import_or_a_class(self):
        for path in FILES:
            tree = ast.parse(path.read_text())
            taken = {node.name for node in ast.walk(tree) if isinstance(node, (ast.alias, ast.ClassDef))}
            for node in ast.walk(tree):
                if isinstance(node, ast.arg):
                    self.assertNotIn(node.arg, taken, path.name)
                if isinstance(node, ast.Name) and isinstance(node.ctx, ast.Store):
                    self.assertNotIn(node.id, taken, path.name)

    def test_methods_of_pythons_own_values(self):
        own = {part.name for where, node in self.each_node() if isinstance(node, ast.ClassDef)
               for part in node.body if isinstance(part, ast.FunctionDef)}
        for where, node in self.each_node():
            if isinstance(node, ast.Call) and isinstance(node.func, ast.Attribute):
                self.assertIn(node.func.attr, set(METHODS) | own, where)

    def test_no_name_is_a_method_here_and_a_value_there(self):
        methods = {part.name for where, node in self.each_node() if isinstance(node, ast.ClassDef)
                   for part in node.body if isinstance(part, ast.FunctionDef)}
        values = {node.attr for where, node in self.each_node()
                  if isinstance(node, ast.Attribute) and isinstance(node.ctx, ast.Store)}
        self.assertEqual(methods & values, set())

    def test_lists_and_dicts_of_a_files_top_are_only_read(self):
        for path in FILES:
            tree = ast.parse(path.read_text())
            tops = {node.targets[0].id: node.value for node in tree.body if isinstance(node, ast.Assign)}
            kept = {name for name in tops if isinstance(tops[name], (ast.List, ast.Dict))}
            for name in kept:
                inner = [node for node in ast.walk(tops[name]) if isinstance(node, (ast.List, ast.Dict))]
                self.assertEqual(inner, [tops[name]], path.name)
            above = {part: node for node in ast.walk(tree) for part in ast.iter_child_nodes(node)}
            for node in ast.walk(tree):
                if isinstance(node, ast.Name) and node.id in kept and isinstance(node.ctx, ast.Load):
                    user = above[node]
                    read = (isinstance(user, ast.Subscript) and isinstance(user.ctx, ast.Load)
                            or isinstance(user, ast.Compare) or isinstance(user, ast.For)
                            or isinstance(user, ast.Attribute) and user.attr == "get")
                    self.assertTrue(read, f"{path.name}:{node.lineno}")

    def test_is_stands_beside_none_true_and_false(self):
        for where, node in self.each_node():
            if isinstance(node, ast.Compare) and isinstance(node.ops[0], (ast.Is, ast.IsNot)):
                self.assertIsInstance(node.comparators[0], ast.Constant, where)

    def test_sets_are_asked_on_the_spot(self):
        for path in FILES:
            tree = ast.parse(path.read_text())
            above = {part: node for node in ast.walk(tree) for part in ast.iter_child_nodes(node)}
            for node in ast.walk(tree):
                if isinstance(node, ast.Name) and node.id in ("set", "frozenset"):
                    user = above[above[node]]
                    while isinstance(user, ast.BinOp):
                        user = above[user]
                    asked = isinstance(user, ast.Compare) or (
                        isinstance(user, ast.Call) and isinstance(user.func, ast.Name)
                        and user.func.id in ("sorted", "len") and user.keywords == [])
                    self.assertTrue(asked, f"{path.name}:{node.lineno}")

    def test_walks_are_not_kept(self):
        for where, node in self.each_node():
            if isinstance(node, (ast.Assign, ast.Return)) and isinstance(node.value, ast.Call):
                called = node.value.func
                if isinstance(called, ast.Name):
                    self.assertNotIn(called.id, WALKED, where)

    def test_no_percent_sign_in_a_text(self):
        for where, node in self.each_node():
            if isinstance(node, ast.Constant) and isinstance(node.value, str):
                self.assertNotIn("%", node.value, where)
