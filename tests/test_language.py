"""Holds the package to many of the rules of LANGUAGE.md; that a loop changes nothing it walks, say, is not checked."""

import ast
import builtins
import pathlib
import re
import unittest

PACKAGE = pathlib.Path(__file__).resolve().parent.parent / "nearnames"
FILES = sorted(PACKAGE.rglob("*.py"))

STATEMENTS = (ast.FunctionDef, ast.ClassDef, ast.Assign, ast.AugAssign, ast.If, ast.While, ast.For, ast.Return,
              ast.Break, ast.Continue, ast.Pass, ast.Raise, ast.Try, ast.ImportFrom, ast.Expr)
EXPRESSIONS = (ast.BoolOp, ast.BinOp, ast.UnaryOp, ast.Lambda, ast.IfExp, ast.Dict, ast.Set, ast.ListComp, ast.Compare,
               ast.Call, ast.FormattedValue, ast.JoinedStr, ast.Constant, ast.Attribute, ast.Subscript, ast.Name,
               ast.List, ast.Tuple, ast.Slice)
BUILT_IN = """len range enumerate zip min max sum abs sorted reversed int str bool list tuple dict set frozenset isinstance
    ord repr any all divmod Exception ValueError TypeError KeyError IndexError LookupError ZeroDivisionError
    ArithmeticError OverflowError RuntimeError NotImplementedError AttributeError StopIteration""".split()
METHODS = """append clear copy count endswith extend find get index insert isalnum isalpha isdigit islower isspace isupper
    items join keys ljust lower lstrip partition pop remove replace reverse rfind rjust rpartition rsplit rstrip
    setdefault split splitlines startswith strip update upper values zfill bit_length __init__""".split()
UNUSED_NAMES = """attrgetter breakpoint builtins compile copyright credits delattr dir eval exec exit gc getattr globals
    hasattr help id importlib license locals methodcaller os quit setattr super type vars sys register mro elements open
    input version_info with_traceback add_note""".split()
KEYWORDS = {"sorted": ["key", "reverse"], "min": ["key", "default"], "max": ["key", "default"], "sum": ["start"],
            "enumerate": ["start"], "zip": ["strict"]}
WALKERS = "list tuple dict sorted sum any all enumerate zip min max".split()
UNUSED_WORDS = re.compile(
    r"\b(type|typing|typing_extensions|enum|Enum|IntEnum|StrEnum|Flag|IntFlag|Generic|Protocol|ABC|ABCMeta|namedtuple"
    r"|NamedTuple|TypedDict|TYPE_CHECKING|abstractmethod)\b|dataclass|overload|contextmanager")


def nodes(path):
    return list(ast.walk(ast.parse(path.read_text(encoding="ascii"))))


def each_node():
    for path in FILES:
        for node in nodes(path):
            where = f"{path.name}, line {getattr(node, 'lineno', None)}"
            yield where, node


def own_names():
    """Every name that a file of the package binds: defs, classes, arguments, imports and assigned names."""
    bound = {}
    for path in FILES:
        for node in nodes(path):
            if isinstance(node, (ast.FunctionDef, ast.ClassDef)):
                bound[node.name] = True
            if isinstance(node, ast.arg):
                bound[node.arg] = True
            if isinstance(node, ast.Name) and isinstance(node.ctx, ast.Store):
                bound[node.id] = True
            if isinstance(node, ast.ExceptHandler) and node.name:
                bound[node.name] = True
    return bound


def parents():
    """Pairs of a node of the package and the node right above it, with the place of the first."""
    for where, node in each_node():
        for part in ast.iter_child_nodes(node):
            yield f"{where} or below", part, node


def locals_of(tree):
    """Every parameter and local of a file's defs and lambdas, and the targets of its comprehensions."""
    words = {node.arg for node in ast.walk(tree) if isinstance(node, ast.arg)}
    for part in ast.walk(tree):
        if isinstance(part, (ast.FunctionDef, ast.ListComp)):
            named = [node for node in ast.walk(part) if isinstance(node, ast.Name)]
            words |= {node.id for node in named if isinstance(node.ctx, ast.Store)}
    return words


def methods_and_values():
    methods, values = set(), set()
    for path in FILES:
        for node in nodes(path):
            if isinstance(node, ast.ClassDef):
                methods.update(part.name for part in node.body if isinstance(part, ast.FunctionDef))
            if isinstance(node, ast.Attribute) and isinstance(node.ctx, ast.Store):
                values.add(node.attr)
    return methods, values


def own_classes():
    return {node.name for where, node in each_node() if isinstance(node, ast.ClassDef)}


def called_name(node):
    """The name of what is called, where it is called by a plain name."""
    return node.func.id if isinstance(node, ast.Call) and isinstance(node.func, ast.Name) else None


def is_walked_at_once(node):
    """Whether this call tells something that may only be walked on the spot."""
    by_method = isinstance(node, ast.Call) and isinstance(node.func, ast.Attribute)
    return (called_name(node) in ("zip", "enumerate", "reversed", "range")
            or by_method and node.func.attr in ("items", "keys", "values"))


class TestLanguage(unittest.TestCase):
    def test_files_and_signs(self):
        self.assertIn(PACKAGE / "__init__.py", FILES)
        for path in PACKAGE.rglob("*"):
            if "__pycache__" not in path.parts:
                self.assertRegex(path.name, r"^[a-z_][a-z0-9_]*\.py$")
        for path in FILES:
            self.assertRegex(path.read_bytes().decode("ascii"), r"\A[ -~\n]*\Z")

    def test_sizes(self):
        for path in FILES:
            lines = path.read_text().splitlines()
            self.assertLessEqual(len(lines), 400, path.name)
            self.assertLessEqual(max(len(line) for line in lines), 120, path.name)
        for where, node in each_node():
            if isinstance(node, ast.FunctionDef):
                self.assertLessEqual(node.end_lineno - node.lineno + 1, 40, where)

    def test_unused_words(self):
        for path in FILES:
            self.assertIsNone(UNUSED_WORDS.search(path.read_text()), path.name)

    def test_imports(self):
        for where, node in each_node():
            self.assertNotIsInstance(node, ast.Import, where)
            if isinstance(node, ast.ImportFrom):
                self.assertEqual(node.level, 0, where)
                self.assertTrue(node.module.startswith("nearnames."), where)
                self.assertTrue((PACKAGE / f"{node.module.split('.')[1]}.py").is_file(), where)
                self.assertNotIn("*", [part.name for part in node.names], where)

    def test_statements_and_expressions(self):
        for where, node in each_node():
            if isinstance(node, ast.stmt):
                self.assertIsInstance(node, STATEMENTS, where)
            if isinstance(node, ast.expr):
                self.assertIsInstance(node, EXPRESSIONS, where)
            if isinstance(node, ast.Assign):
                self.assertEqual(len(node.targets), 1, where)
            if isinstance(node, (ast.For, ast.While)):
                self.assertEqual(node.orelse, [], where)
            if isinstance(node, ast.Try):
                self.assertEqual(node.finalbody, [], where)
            if isinstance(node, ast.Constant):
                self.assertIn(type(node.value), (int, str, bool, type(None)), where)
            if isinstance(node, ast.BinOp):
                self.assertNotIsInstance(node.op, (ast.Div, ast.MatMult), where)

    def test_the_top_of_a_file(self):
        for path in FILES:
            tree = ast.parse(path.read_text())
            self.assertIsNotNone(ast.get_docstring(tree), path.name)
            for part in tree.body[1:]:
                self.assertIsInstance(part, (ast.ImportFrom, ast.FunctionDef, ast.ClassDef, ast.Assign), path.name)

    def test_comprehensions_have_one_for_and_at_most_one_if(self):
        for where, node in each_node():
            if isinstance(node, ast.ListComp):
                self.assertEqual(len(node.generators), 1, where)
                self.assertLessEqual(len(node.generators[0].ifs), 1, where)

    def test_texts(self):
        for where, node in each_node():
            if isinstance(node, ast.FormattedValue):
                self.assertIsInstance(node.value, ast.Name, where)
                self.assertIn(node.conversion, (-1, ord("r")), where)
                self.assertIsNone(node.format_spec, where)
            if isinstance(node, ast.Constant) and isinstance(node.value, str):
                self.assertNotIn("%", node.value, where)

    def test_lambdas_of_one_line_have_unlike_parameters(self):
        for path in FILES:
            lambdas = [(node.lineno, ast.unparse(node.args)) for node in nodes(path) if isinstance(node, ast.Lambda)]
            self.assertEqual(len(lambdas), len(set(lambdas)), path.name)

    def test_locals_are_not_called_like_imports_or_classes_or_pythons_own(self):
        for path in FILES:
            tree = ast.parse(path.read_text())
            taken = {alias.name for node in tree.body if isinstance(node, ast.ImportFrom) for alias in node.names}
            taken |= {node.name for node in tree.body if isinstance(node, ast.ClassDef)}
            self.assertEqual(locals_of(tree) & (taken | set(dir(builtins))), set(), path.name)

    def test_names_of_a_files_top_are_bound_once(self):
        for path in FILES:
            bound = []
            for node in ast.parse(path.read_text()).body:
                if isinstance(node, ast.ImportFrom):
                    bound += [alias.asname or alias.name for alias in node.names]
                if isinstance(node, (ast.FunctionDef, ast.ClassDef)):
                    bound.append(node.name)
                if isinstance(node, ast.Assign):
                    bound += [target.id for target in node.targets]
            self.assertEqual(len(bound), len(set(bound)), path.name)

    def test_methods_are_called_where_they_stand(self):
        methods, values = methods_and_values()
        for where, node, above in parents():
            if isinstance(node, ast.Attribute) and node.attr in methods | set(METHODS) and node.attr not in values:
                called = isinstance(above, ast.Call) and above.func is node
                self.assertTrue(called or isinstance(above, ast.keyword) and above.arg == "key", where)

    def test_sets_are_not_kept_nor_walked(self):
        for where, node, above in parents():
            if isinstance(node, ast.Call) and isinstance(node.func, ast.Name) and node.func.id in ("set", "frozenset"):
                beside = isinstance(above, (ast.Compare, ast.BinOp))
                plain = isinstance(above, ast.Call) and not above.keywords
                within = plain and getattr(above.func, "id", None) in ("sorted", "len")
                self.assertTrue(beside or within, where)

    def test_classes_are_not_handed_on(self):
        classes = own_classes()
        for where, node, above in parents():
            if isinstance(node, ast.Name) and node.id in classes:
                called = isinstance(above, ast.Call) and above.func is node
                base_init = isinstance(above, ast.Attribute) and above.attr == "__init__"
                named = isinstance(above, (ast.ClassDef, ast.ExceptHandler)) or called_name(above) == "isinstance"
                self.assertTrue(called or base_init or named, where)

    def test_what_is_walked_at_once_is_not_kept(self):
        for where, node, above in parents():
            if is_walked_at_once(node):
                walked = isinstance(above, (ast.For, ast.comprehension)) and above.iter is node
                self.assertTrue(walked or called_name(above) in WALKERS and above.args[0] is node, where)

    def test_lists_and_dicts_of_a_files_top_are_only_read(self):
        for path in FILES:
            tree = ast.parse(path.read_text())
            kept = {target.id for part in tree.body if isinstance(part, ast.Assign) for target in part.targets}
            for above in ast.walk(tree):
                for node in ast.iter_child_nodes(above):
                    if isinstance(node, ast.Name) and node.id in kept and isinstance(node.ctx, ast.Load):
                        read = isinstance(above, ast.Subscript) and isinstance(above.ctx, ast.Load)
                        walked = isinstance(above, (ast.For, ast.comprehension)) and above.iter is node
                        self.assertTrue(read or walked or isinstance(above, ast.Compare), path.name)

    def test_keywords_at_pythons_own(self):
        for where, node in each_node():
            if isinstance(node, ast.Call) and called_name(node) in BUILT_IN:
                for keyword in node.keywords:
                    self.assertIn(keyword.arg, KEYWORDS.get(called_name(node), []), where)
            if isinstance(node, ast.Call) and isinstance(node.func, ast.Attribute) and node.func.attr in METHODS:
                self.assertEqual(node.keywords, [], where)

    def test_errors_that_are_taken(self):
        allowed = own_classes() | {"KeyError", "ZeroDivisionError", "StopIteration"}
        for where, node in each_node():
            if isinstance(node, ast.ExceptHandler):
                self.assertIsInstance(node.type, ast.Name, where)
                self.assertIn(node.type.id, allowed, where)
            if isinstance(node, ast.Raise):
                self.assertIsInstance(node.exc, ast.Call, where)

    def test_two_underscores(self):
        for where, node in each_node():
            if isinstance(node, ast.FunctionDef) and node.name.startswith("__"):
                self.assertEqual(node.name, "__init__", where)
                self.assertFalse(any(isinstance(part, ast.Return) for part in ast.walk(node)), where)

    def test_powers_have_a_written_exponent(self):
        for where, node in each_node():
            if isinstance(node, ast.BinOp) and isinstance(node.op, ast.Pow):
                self.assertIsInstance(node.right, ast.Constant, where)

    def test_is_stands_beside_none_and_truths(self):
        for where, node in each_node():
            if isinstance(node, ast.Compare):
                for sign, right in zip(node.ops, node.comparators):
                    if isinstance(sign, (ast.Is, ast.IsNot)):
                        self.assertIsInstance(right, ast.Constant, where)
                        self.assertIn(type(right.value), (bool, type(None)), where)

    def test_defs(self):
        for where, node in each_node():
            if isinstance(node, (ast.FunctionDef, ast.ClassDef)):
                self.assertEqual(node.decorator_list, [], where)
            if isinstance(node, ast.arguments):
                self.assertFalse(node.vararg or node.kwarg or node.kwonlyargs or node.posonlyargs, where)
            if isinstance(node, ast.ClassDef):
                self.assertLessEqual(len(node.bases), 1, where)
                for part in node.body:
                    self.assertIsInstance(part, (ast.FunctionDef, ast.Pass), where)

    def test_names(self):
        bound = own_names()
        for word in bound:
            self.assertRegex(word, r"^([A-Za-z][A-Za-z0-9_]*|__init__)$")
            self.assertNotIn(word, BUILT_IN + UNUSED_NAMES)
        for where, node in each_node():
            if isinstance(node, ast.Name):
                self.assertTrue(node.id in bound or node.id in BUILT_IN, where)

    def test_attributes(self):
        methods, values = methods_and_values()
        self.assertEqual(methods & values, set())
        for where, node in each_node():
            if isinstance(node, ast.Attribute):
                self.assertTrue(node.attr in METHODS or node.attr in methods or node.attr in values, where)


if __name__ == "__main__":
    unittest.main()
