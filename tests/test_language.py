"""That the package's files keep to the part of Python that the program is written in."""

import ast
import pathlib
import re
import unittest

PACKAGE = pathlib.Path(__file__).resolve().parent.parent / "boughbook"

NODES = """Module FunctionDef ClassDef arguments arg Return Assign AugAssign For While If Raise Try ExceptHandler
ImportFrom alias Expr Pass Break Continue BoolOp And Or BinOp Add Sub Mult FloorDiv Mod Pow LShift RShift BitOr BitXor
BitAnd UnaryOp Invert Not USub UAdd Lambda IfExp Dict Set ListComp comprehension Compare Eq NotEq Lt LtE Gt GtE Is IsNot
In NotIn Call keyword FormattedValue JoinedStr Constant Attribute Subscript Slice Name Load Store List Tuple""".split()

OWN_NAMES = """len range enumerate zip min max sum abs sorted reversed int str bool list tuple dict set frozenset
isinstance ord repr any all divmod Exception ValueError TypeError KeyError IndexError LookupError ZeroDivisionError
ArithmeticError OverflowError RuntimeError NotImplementedError AttributeError StopIteration""".split()

METHODS = """append clear copy count endswith extend find get index insert isalnum isalpha isdigit islower isspace
isupper items join keys ljust lower lstrip partition pop remove replace reverse rfind rjust rpartition rsplit rstrip
setdefault split splitlines startswith strip update upper values zfill bit_length __init__""".split()

WORDS_OUT = """type typing typing_extensions enum Enum IntEnum StrEnum Flag IntFlag Generic Protocol ABC ABCMeta
namedtuple NamedTuple TypedDict TYPE_CHECKING abstractmethod""".split()

NAMES_OUT = """register mro elements open input version_info with_traceback add_note attrgetter breakpoint builtins
compile copyright credits delattr dir eval exec exit gc getattr globals hasattr help id importlib license locals
methodcaller os quit setattr super vars sys chr print""".split()

TOPS = (ast.ImportFrom, ast.FunctionDef, ast.ClassDef, ast.Assign)


def files():
    return sorted(path for path in PACKAGE.rglob("*") if "__pycache__" not in path.parts)


def trees():
    return [(path.name, ast.parse(path.read_text())) for path in files()]


def bound_names(tree):
    """All names that a file binds, at its top or within."""
    names = {node.id for node in ast.walk(tree) if isinstance(node, ast.Name) and isinstance(node.ctx, ast.Store)}
    names |= {node.arg for node in ast.walk(tree) if isinstance(node, ast.arg)}
    names |= {node.name for node in ast.walk(tree) if isinstance(node, (ast.FunctionDef, ast.ClassDef))}
    names |= {node.name for node in ast.walk(tree) if isinstance(node, ast.alias)}
    return names


class Language(unittest.TestCase):
    def test_there_is_a_package_of_plain_files(self):
        self.assertIn(PACKAGE / "__init__.py", files())
        for path in files():
            self.assertTrue(path.is_file() and re.fullmatch(r"[a-z0-9_]+\.py", path.name), path)

    def test_signs_sizes_and_words(self):
        for path in files():
            text = path.read_text()
            self.assertIsNone(re.search(r"[^ -~\n]", text), path)
            lines = text.split("\n")
            self.assertLessEqual(len(lines), 401, path)
            self.assertLessEqual(max(len(line) for line in lines), 120, path)
            for word in re.findall(r"\w+", text):
                self.assertNotIn(word, WORDS_OUT, path)
            self.assertIsNone(re.search("dataclass|overload|contextmanager", text), path)

    def test_only_told_forms(self):
        for name, tree in trees():
            for node in ast.walk(tree):
                where = (name, getattr(node, "lineno", 0), node)
                self.assertIn(node.__class__.__name__, NODES, where)
                if isinstance(node, ast.FunctionDef):
                    self.assertLessEqual(node.end_lineno - node.lineno + 1, 40, where)
                    self.assertEqual((node.decorator_list, node.args.vararg, node.args.kwarg), ([], None, None), where)
                if isinstance(node, ast.comprehension):
                    self.assertLessEqual(len(node.ifs), 1, where)
                if isinstance(node, ast.ListComp):
                    self.assertEqual(len(node.generators), 1, where)
                if isinstance(node, (ast.For, ast.While)):
                    self.assertEqual(node.orelse, [], where)
                if isinstance(node, ast.Assign):
                    self.assertEqual(len(node.targets), 1, where)
                if isinstance(node, ast.FormattedValue):
                    self.assertIsInstance(node.value, ast.Name, where)
                if isinstance(node, ast.Constant):
                    self.assertNotIsInstance(node.value, (float, bytes, complex), where)
                    self.assertNotIn("%", str(node.value), where)

    def test_imports_and_tops(self):
        drawn = {}
        for name, tree in trees():
            drawn[name] = []
            for node in ast.walk(tree):
                if isinstance(node, ast.ImportFrom):
                    self.assertIn(node, tree.body, name)
                    self.assertEqual(node.level, 0, name)
                    self.assertRegex(node.module, r"^boughbook\.[a-z]+$", name)
                    source = ast.parse((PACKAGE / (node.module.split(".")[1] + ".py")).read_text())
                    for alias in node.names:
                        defined = [each for each in source.body if not isinstance(each, ast.ImportFrom)]
                        names = bound_names(ast.Module(defined, []))
                        self.assertIn(alias.name, names, (name, node.lineno))
                    drawn[name].append(node.module.split(".")[1] + ".py")
            for number, node in enumerate(tree.body):
                docstring = number == 0 and isinstance(node, ast.Expr)
                self.assertTrue(docstring or isinstance(node, TOPS), (name, node.lineno))
        while drawn:
            free = [name for name in drawn if not drawn[name]]
            self.assertTrue(free, f"files draw from one another: {drawn}")
            drawn = {name: [each for each in drawn[name] if each not in free] for name in drawn if name not in free}

    def test_names_and_methods(self):
        own = {each for _, tree in trees() for each in bound_names(tree)}
        for name, tree in trees():
            bound = bound_names(tree)
            for word in bound - {"__init__"}:
                self.assertRegex(word, r"^[A-Za-z][A-Za-z0-9_]*$", name)
                self.assertNotIn(word, OWN_NAMES + NAMES_OUT, name)
            for node in ast.walk(tree):
                if isinstance(node, ast.Name):
                    self.assertTrue(node.id in bound or node.id in OWN_NAMES, (name, node.lineno, node.id))
                if isinstance(node, ast.Call) and isinstance(node.func, ast.Attribute):
                    self.assertTrue(node.func.attr in METHODS or node.func.attr in own, (name, node.lineno))

    def test_no_name_is_a_method_and_a_value(self):
        methods = set()
        values = set()
        for _, tree in trees():
            for made in [node for node in tree.body if isinstance(node, ast.ClassDef)]:
                methods |= {node.name for node in made.body if isinstance(node, ast.FunctionDef)}
                values |= {
                    node.attr for node in ast.walk(made)
                    if isinstance(node, ast.Attribute) and isinstance(node.ctx, ast.Store)
                }
        self.assertEqual(methods & values, set())
        self.assertEqual(values & set(dir(str) + dir(int) + dir(list) + dir(dict) + dir(set) + dir(bytes)), set())

    def test_what_is_walked_at_once_is_not_kept(self):
        walkers = ("zip", "enumerate", "reversed", "range", "items", "keys", "values")
        around = ("list", "tuple", "dict", "sorted", "sum", "any", "all", "enumerate", "zip", "min", "max", "join")
        for name, tree in trees():
            walked = set()
            for node in ast.walk(tree):
                if isinstance(node, (ast.For, ast.comprehension)):
                    walked.add(node.iter)
                if isinstance(node, ast.Call) and node.args:
                    asked = getattr(node.func, "id", getattr(node.func, "attr", ""))
                    walked |= set(node.args[:1]) if asked in around else set()
            for node in ast.walk(tree):
                if isinstance(node, ast.Call):
                    asked = getattr(node.func, "id", getattr(node.func, "attr", ""))
                    self.assertTrue(asked not in walkers or node in walked, (name, node.lineno))

    def test_is_stands_beside_none_true_and_false_alone(self):
        for name, tree in trees():
            for node in ast.walk(tree):
                if isinstance(node, ast.Compare) and isinstance(node.ops[0], (ast.Is, ast.IsNot)):
                    self.assertIsInstance(node.comparators[0], ast.Constant, (name, node.lineno))

    def test_no_local_is_called_like_an_import_or_a_def(self):
        for name, tree in trees():
            top = [alias.name for node in tree.body if isinstance(node, ast.ImportFrom) for alias in node.names]
            top += [node.name for node in tree.body if isinstance(node, (ast.FunctionDef, ast.ClassDef))]
            self.assertEqual(len(top), len(set(top)), name)
            for node in ast.walk(tree):
                if isinstance(node, ast.arg):
                    self.assertNotIn(node.arg, top, (name, node.lineno))
                if isinstance(node, ast.Name) and isinstance(node.ctx, ast.Store):
                    self.assertNotIn(node.id, top, (name, node.lineno))
