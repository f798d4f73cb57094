"""The rules of the language that the package keeps to, as far as a walk through its code can see them."""

import ast
import builtins
import pathlib
import re
import unittest

PACKAGE = pathlib.Path(__file__).resolve().parent.parent / "issuerolls"

OWN_NAMES_OF_PYTHON = """len range enumerate zip min max sum abs sorted reversed int str bool list tuple dict set
frozenset isinstance ord repr any all divmod Exception ValueError TypeError KeyError IndexError LookupError
ZeroDivisionError ArithmeticError OverflowError RuntimeError NotImplementedError StopIteration""".split()

METHODS = """append clear copy count endswith extend find get index insert isalnum isalpha isdigit islower isspace
isupper items join keys ljust lower lstrip partition pop remove replace reverse rfind rjust rpartition rsplit rstrip
setdefault split splitlines startswith strip update upper values zfill bit_length""".split()

WORDS_THAT_STAND_NOWHERE = """type typing typing_extensions enum Enum IntEnum StrEnum Flag IntFlag Generic Protocol
ABC ABCMeta namedtuple NamedTuple TypedDict TYPE_CHECKING abstractmethod""".split()

NAMES_NOT_USED = """register mro elements open input version_info with_traceback add_note attrgetter breakpoint
builtins compile copyright credits delattr dir eval exec exit gc getattr globals hasattr help id importlib license
locals methodcaller os quit setattr super type vars sys format format_map chr print""".split()

ALLOWED_NODES = (
    ast.Module, ast.ImportFrom, ast.alias, ast.FunctionDef, ast.ClassDef, ast.arguments, ast.arg, ast.Lambda,
    ast.Assign, ast.AugAssign, ast.If, ast.While, ast.For, ast.Return, ast.Break, ast.Continue, ast.Pass, ast.Raise,
    ast.Try, ast.ExceptHandler, ast.Expr, ast.Constant, ast.List, ast.Tuple, ast.Dict, ast.BinOp, ast.UnaryOp,
    ast.BoolOp, ast.Compare, ast.IfExp, ast.Call, ast.keyword, ast.Attribute, ast.Subscript, ast.Slice, ast.Name,
    ast.ListComp, ast.comprehension, ast.JoinedStr, ast.FormattedValue, ast.expr_context, ast.boolop, ast.operator,
    ast.unaryop, ast.cmpop,
)

WALKED_ON_THE_SPOT = ("zip", "enumerate", "reversed", "range", "items", "keys", "values")
WALKERS = ("list", "tuple", "dict", "sorted", "sum", "any", "all", "enumerate", "zip", "min", "max")
METHODS_WITH_UNDERSCORES = ("__init__", "__eq__", "__repr__", "__str__", "__len__")


def sources():
    return {path.stem: path.read_text(encoding="utf-8") for path in sorted(PACKAGE.glob("*.py"))}


def trees():
    return {name: ast.parse(source) for name, source in sources().items()}


def nodes(kind):
    return [(name, node) for name, tree in trees().items() for node in ast.walk(tree) if isinstance(node, kind)]


def top_names(tree):
    """Names bound at a file's top, each as often as it is bound."""
    names = []
    for statement in tree.body:
        if isinstance(statement, (ast.FunctionDef, ast.ClassDef)):
            names.append(statement.name)
        if isinstance(statement, ast.ImportFrom):
            names += [alias.name for alias in statement.names]
        if isinstance(statement, ast.Assign):
            names += [target.id for target in statement.targets]
    return names


def local_names(tree):
    names = [node.arg for node in ast.walk(tree) if isinstance(node, ast.arg)]
    names += [node.name for node in ast.walk(tree) if isinstance(node, ast.ExceptHandler) and node.name]
    for function in ast.walk(tree):
        if isinstance(function, (ast.FunctionDef, ast.Lambda)):
            names += [node.id for node in ast.walk(function)
                      if isinstance(node, ast.Name) and isinstance(node.ctx, ast.Store)]
    return names


def own_methods():
    return [function.name for name, node in nodes(ast.ClassDef) for function in node.body
            if isinstance(function, ast.FunctionDef)]


def own_values():
    return [node.attr for name, node in nodes(ast.Attribute) if isinstance(node.ctx, ast.Store)]


def called_name(node):
    if isinstance(node, ast.Call):
        return node.func.id if isinstance(node.func, ast.Name) else getattr(node.func, "attr", None)
    return None


class Files(unittest.TestCase):
    def test_files_and_names(self):
        names = [path.name for path in PACKAGE.iterdir() if path.name != "__pycache__"]
        self.assertIn("__init__.py", names)
        for name in names:
            self.assertRegex(name, r"^(__init__|[a-z][a-z0-9_]*)\.py$")
            stem = name[:-3]
            self.assertFalse(stem in vars(builtins) or stem in WORDS_THAT_STAND_NOWHERE or stem.startswith("test"))

    def test_signs_and_sizes(self):
        for name, source in sources().items():
            self.assertRegex(source, r"\A[ -~\n]*\Z", name)
            rows = source.split("\n")
            self.assertLessEqual(len(rows), 400, name)
            self.assertLessEqual(max(len(row) for row in rows), 120, name)

    def test_functions_are_short(self):
        for name, node in nodes(ast.FunctionDef):
            self.assertLessEqual(node.end_lineno - node.lineno + 1, 40, (name, node.name))

    def test_words_that_stand_nowhere(self):
        for name, source in sources().items():
            found = set(re.findall(r"\w+", source)) & set(WORDS_THAT_STAND_NOWHERE)
            self.assertEqual(found, set(), name)
            self.assertNotRegex(source, "dataclass|overload|contextmanager", name)

    def test_no_per_cent_sign_within_a_text(self):
        for name, node in nodes(ast.Constant):
            if isinstance(node.value, str):
                self.assertNotIn("%", node.value, name)
            else:
                self.assertIn(type(node.value), (int, bool, type(None)), name)


class Forms(unittest.TestCase):
    def test_allowed_forms_alone(self):
        for name, node in nodes(ast.AST):
            self.assertIsInstance(node, ALLOWED_NODES, (name, getattr(node, "lineno", 0)))
            self.assertNotIsInstance(node, (ast.Div, ast.MatMult, ast.Pow), name)

    def test_the_top_of_a_file(self):
        for name, tree in trees().items():
            for at, statement in enumerate(tree.body):
                docstring = at == 0 and isinstance(statement, ast.Expr) and isinstance(statement.value, ast.Constant)
                known = isinstance(statement, (ast.ImportFrom, ast.FunctionDef, ast.ClassDef, ast.Assign))
                self.assertTrue(docstring or known, (name, statement.lineno))
                if isinstance(statement, ast.Assign):
                    ast.literal_eval(statement.value)
            names = top_names(tree)
            self.assertEqual(len(names), len(set(names)), name)

    def test_statements(self):
        for name, node in nodes((ast.For, ast.While)):
            self.assertEqual(node.orelse, [], (name, node.lineno))
        for name, node in nodes(ast.Assign):
            self.assertEqual(len(node.targets), 1, (name, node.lineno))
        for name, node in nodes(ast.Try):
            self.assertEqual(node.finalbody, [], (name, node.lineno))
        for name, node in nodes((ast.FunctionDef, ast.ClassDef)):
            self.assertEqual(node.decorator_list, [], (name, node.lineno))
        for name, node in nodes(ast.arguments):
            self.assertEqual((node.vararg, node.kwarg, node.kwonlyargs, node.posonlyargs), (None, None, [], []), name)
        for name, node in nodes(ast.ListComp):
            self.assertEqual(len(node.generators), 1, (name, node.lineno))
            self.assertLessEqual(len(node.generators[0].ifs), 1, (name, node.lineno))

    def test_is_beside_none_true_and_false_alone(self):
        for name, node in nodes(ast.Compare):
            for operator, right in zip(node.ops, node.comparators):
                if isinstance(operator, (ast.Is, ast.IsNot)):
                    self.assertIsInstance(right, ast.Constant, (name, node.lineno))
                    self.assertIn(right.value, (None, True, False), (name, node.lineno))

    def test_errors_are_taken_by_their_own_names(self):
        errors = [node.name for name, node in nodes(ast.ClassDef)
                  if any(base.id == "ValueError" for base in node.bases)]
        for name, node in nodes(ast.ExceptHandler):
            self.assertIn(getattr(node.type, "id", None), errors, (name, node.lineno))

    def test_walked_on_the_spot(self):
        for name, tree in trees().items():
            walked = [node.iter for node in ast.walk(tree) if isinstance(node, (ast.For, ast.comprehension))]
            walked += [node.args[0] for node in ast.walk(tree) if called_name(node) in WALKERS and node.args]
            for node in ast.walk(tree):
                if called_name(node) in WALKED_ON_THE_SPOT:
                    self.assertTrue(any(node is each for each in walked), (name, node.lineno))

    def test_sets_are_sorted_or_counted_on_the_spot(self):
        for name, tree in trees().items():
            spots = [part for node in ast.walk(tree) if called_name(node) in ("sorted", "len")
                     for part in ast.walk(node.args[0])]
            for node in ast.walk(tree):
                if called_name(node) in ("set", "frozenset"):
                    self.assertTrue(any(node is each for each in spots), (name, node.lineno))


class Names(unittest.TestCase):
    def test_imports(self):
        drawn = {name: [] for name in trees()}
        for name, node in nodes(ast.ImportFrom):
            package, _, module = node.module.partition(".")
            self.assertEqual((package, node.level), ("issuerolls", 0), name)
            for alias in node.names:
                self.assertIsNone(alias.asname, name)
                statements = trees()[module].body
                defined = top_names(ast.Module([each for each in statements if not isinstance(each, ast.ImportFrom)]))
                self.assertIn(alias.name, defined, name)
            drawn[name].append(module)
        self.assertEqual(drawn["__init__"], [])
        while drawn:
            free = [name for name in drawn if not any(other in drawn for other in drawn[name])]
            self.assertNotEqual(free, [], "files draw from one another")
            drawn = {name: others for name, others in drawn.items() if name not in free}

    def test_each_import_is_used(self):
        for name, node in nodes(ast.ImportFrom):
            used = [each.id for each in ast.walk(trees()[name]) if isinstance(each, ast.Name)]
            for alias in node.names:
                self.assertIn(alias.name, used, name)

    def test_names_that_are_read(self):
        for name, tree in trees().items():
            known = top_names(tree) + local_names(tree) + OWN_NAMES_OF_PYTHON
            for node in ast.walk(tree):
                if isinstance(node, ast.Name):
                    self.assertIn(node.id, known, (name, node.lineno))

    def test_names_that_are_bound(self):
        for name, tree in trees().items():
            imported = [alias.name for node in tree.body if isinstance(node, ast.ImportFrom) for alias in node.names]
            classes = [node.name for node in tree.body if isinstance(node, ast.ClassDef)]
            for each in local_names(tree):
                self.assertNotIn(each, imported + classes, name)
                self.assertFalse(each in vars(builtins), (name, each))
            for each in local_names(tree) + top_names(tree):
                self.assertRegex(each, r"^[A-Za-z][A-Za-z0-9_]*$", name)
                self.assertFalse(each in vars(builtins), (name, each))
                self.assertNotIn(each, NAMES_NOT_USED, name)

    def test_own_methods_and_values(self):
        methods = [method for method in own_methods() if method not in METHODS_WITH_UNDERSCORES]
        pythons_own = [each for kind in (str, int, list, dict, set, bytes) for each in vars(kind)]
        for each in methods + own_values():
            self.assertRegex(each, r"^[A-Za-z][A-Za-z0-9_]*$")
            self.assertNotIn(each, pythons_own)
            self.assertNotIn(each, NAMES_NOT_USED)
        self.assertEqual(set(methods) & set(own_values()), set())

    def test_attributes(self):
        allowed = METHODS + own_methods() + own_values()
        for name, node in nodes(ast.Attribute):
            self.assertIn(node.attr, allowed, (name, node.lineno))

    def test_keywords(self):
        allowed = {"sorted": ("key", "reverse"), "min": ("key", "default"), "max": ("key", "default"),
                   "sum": ("start",), "enumerate": ("start",), "zip": ("strict",)}
        for name, node in nodes(ast.Call):
            for keyword in node.keywords:
                self.assertIn(keyword.arg, allowed.get(called_name(node), ()), (name, node.lineno))


if __name__ == "__main__":
    unittest.main()
