"""The package against those rules of LANGUAGE.md that can be seen in one file's tree."""

import ast
import builtins
import pathlib
import re
import unittest

PACKAGE = pathlib.Path(__file__).resolve().parent.parent / "beltgarth"

NONE = type(None)

OWN_NAMES = set("""len range enumerate zip min max sum abs sorted reversed int str bool list tuple dict set frozenset
isinstance ord repr any all divmod Exception ValueError TypeError KeyError IndexError LookupError ZeroDivisionError
ArithmeticError OverflowError RuntimeError NotImplementedError AttributeError StopIteration""".split())

METHODS = set("""append clear copy count endswith extend find get index insert isalnum isalpha isdigit islower isspace
isupper items join keys ljust lower lstrip partition pop remove replace reverse rfind rjust rpartition rsplit rstrip
setdefault split splitlines startswith strip update upper values zfill bit_length""".split())

DUNDERS = set("__init__ __eq__ __repr__ __str__ __len__ __all__ __version__".split())

LEFT_OUT = set("""register mro elements open input version_info with_traceback add_note attrgetter breakpoint builtins
compile copyright credits delattr dir eval exec exit gc getattr globals hasattr help id importlib license locals
methodcaller os quit setattr super type vars sys format format_map chr""".split())

WORDS = re.compile(r"\b(type|typing|typing_extensions|enum|Enum|IntEnum|StrEnum|Flag|IntFlag|Generic|Protocol|ABC|ABCMeta"
                   r"|namedtuple|NamedTuple|TypedDict|TYPE_CHECKING|abstractmethod)\b|dataclass|overload|contextmanager")

NODES = tuple(getattr(ast, name) for name in """Module Expr Assign AugAssign If While For Return Break Continue Pass
Raise Try ExceptHandler ImportFrom FunctionDef ClassDef arguments arg Lambda Constant Name Attribute Subscript Slice
List Tuple Dict Set Call keyword BinOp UnaryOp BoolOp Compare IfExp ListComp comprehension JoinedStr FormattedValue alias
expr_context operator unaryop boolop cmpop""".split())


WALKED = set("zip enumerate reversed range items keys values".split())
WALKERS = set("list tuple dict sorted sum any all enumerate zip".split())


def faults(text):
    """The rules that a file's text breaks, as pairs of rule and line."""
    found = faults_of_signs(text)
    tree = ast.parse(text)
    found += faults_of_walks(tree)
    for node in ast.walk(tree):
        found += [(rule, getattr(node, "lineno", 0)) for rule in faults_of_node(node)]
    for node in tree.body:
        if isinstance(node, ast.Expr) and node is not tree.body[0]:
            found.append(("L3", node.lineno))
        if not isinstance(node, (ast.Expr, ast.ImportFrom, ast.FunctionDef, ast.ClassDef, ast.Assign)):
            found.append(("L3", node.lineno))
    return found + faults_of_bindings(tree)


def faults_of_signs(text):
    found = []
    lines = text.split("\n")
    if len(lines) - 1 > 400:
        found.append(("L10", 401))
    for n, line in enumerate(lines, start=1):
        if len(line) > 120:
            found.append(("L10", n))
        if any(not " " <= sign <= "~" for sign in line):
            found.append(("L14", n))
        if WORDS.search(line):
            found.append(("L17", n))
    return found


def faults_of_node(node):
    found = []
    if not isinstance(node, NODES) or isinstance(node, (ast.Div, ast.MatMult)):
        found.append("L6/L7")
    if isinstance(node, ast.ImportFrom):
        if node.level or not (node.module or "").startswith("beltgarth."):
            found.append("L2")
        if any(alias.name == "*" for alias in node.names):
            found.append("L2")
    if isinstance(node, (ast.FunctionDef, ast.ClassDef)) and node.decorator_list:
        found.append("L4/L5")
    if isinstance(node, ast.FunctionDef) and node.end_lineno - node.lineno + 1 > 40:
        found.append("L10")
    if isinstance(node, ast.arguments) and (node.vararg or node.kwarg or node.kwonlyargs or node.posonlyargs):
        found.append("L4")
    if isinstance(node, ast.ClassDef) and (len(node.bases) > 1 or node.keywords):
        found.append("L5")
    if isinstance(node, ast.ClassDef) and any(not isinstance(one, (ast.FunctionDef, ast.Expr)) for one in node.body):
        found.append("L5")
    if isinstance(node, ast.Assign) and len(node.targets) != 1:
        found.append("L6")
    if isinstance(node, (ast.For, ast.While)) and node.orelse or isinstance(node, ast.Try) and node.finalbody:
        found.append("L6")
    if isinstance(node, ast.ListComp) and (len(node.generators) != 1 or len(node.generators[0].ifs) > 1):
        found.append("L7")
    if isinstance(node, ast.Constant):
        found += faults_of_constant(node.value)
    for name in names_of(node):
        found += faults_of_name(name)
    if isinstance(node, ast.Name) and hasattr(builtins, node.id) and node.id not in OWN_NAMES:
        found.append("L8")
    if isinstance(node, ast.BinOp) and isinstance(node.op, ast.Pow):
        exponent = node.right.value if isinstance(node.right, ast.Constant) else None
        if not isinstance(exponent, int) or not 0 <= exponent <= 64:
            found.append("L27")
    if isinstance(node, ast.Compare) and any(isinstance(op, (ast.Is, ast.IsNot)) for op in node.ops):
        sides = [node.left] + node.comparators
        if not any(isinstance(side, ast.Constant) and isinstance(side.value, (bool, NONE)) for side in sides):
            found.append("L20")
    return found


def faults_of_constant(value):
    if value is not None and not isinstance(value, (bool, int, str)):
        return ["L7"]
    if isinstance(value, str) and "%" in value:
        return ["L27"]
    return []


def names_of(node):
    """The names that a node of the tree bears itself."""
    named = {ast.Name: "id", ast.Attribute: "attr", ast.arg: "arg", ast.FunctionDef: "name", ast.ClassDef: "name"}
    for kind, field in named.items():
        if isinstance(node, kind):
            return [getattr(node, field)]
    return []


def faults_of_name(name):
    found = []
    if name.startswith("_") and name not in DUNDERS or not name.isascii():
        found.append("L12")
    if name in LEFT_OUT:
        found.append("L17")
    return found


def called(node):
    """The name under which a node calls something, or None."""
    if not isinstance(node, ast.Call):
        return None
    return node.func.attr if isinstance(node.func, ast.Attribute) else getattr(node.func, "id", None)


def faults_of_walks(tree):
    """What is not walked on the spot, and sets that are kept or walked."""
    found = []
    for node in ast.walk(tree):
        for child in ast.iter_child_nodes(node):
            name = called(child)
            if name in WALKED and not walked_by(node, child):
                found.append(("L23", child.lineno))
            if name == "set" and called(node) not in ("sorted", "len") and not isinstance(node, (ast.Compare, ast.BinOp)):
                found.append(("L24", child.lineno))
    return found


def walked_by(node, child):
    """Whether the node walks its child on the spot."""
    if isinstance(node, (ast.For, ast.comprehension)):
        return node.iter is child
    name = called(node)
    if name in WALKERS:
        return node.args[0] is child
    if name in ("min", "max"):
        return node.args == [child]
    return name == "join" and isinstance(node.func.value, ast.Constant)


def faults_of_bindings(tree):
    """Names bound twice at the top, and names of Python's own or of imports and classes bound anew."""
    top = [alias.asname or alias.name for node in tree.body if isinstance(node, ast.ImportFrom) for alias in node.names]
    taken = top + [node.name for node in tree.body if isinstance(node, ast.ClassDef)]
    top += [node.name for node in tree.body if isinstance(node, (ast.FunctionDef, ast.ClassDef))]
    top += [target.id for node in tree.body if isinstance(node, ast.Assign) for target in node.targets]
    found = [("L15", 0) for name in set(top) if top.count(name) > 1 or hasattr(builtins, name)]
    for node in ast.walk(tree):
        local = isinstance(node, ast.Name) and isinstance(node.ctx, ast.Store) and node.id
        local = local or isinstance(node, ast.arg) and node.arg
        if local and (local in taken or hasattr(builtins, local)):
            found.append(("L15", node.lineno))
    return found


def own_methods(trees):
    return {one.name for tree in trees for node in ast.walk(tree) if isinstance(node, ast.ClassDef)
            for one in node.body if isinstance(one, ast.FunctionDef)}


def own_values(trees):
    return {node.attr for tree in trees for node in ast.walk(tree)
            if isinstance(node, ast.Attribute) and isinstance(node.ctx, ast.Store)}


class PackageTest(unittest.TestCase):
    def setUp(self):
        self.paths = sorted(path for path in PACKAGE.rglob("*") if "__pycache__" not in path.parts)
        self.trees = {path.stem: ast.parse(path.read_text()) for path in self.paths if path.suffix == ".py"}

    def test_files(self):
        self.assertIn(PACKAGE / "__init__.py", self.paths)
        for path in self.paths:
            self.assertRegex(path.name, r"^([a-z][a-z0-9_]*|__init__|__main__)\.py$")
            self.assertFalse(hasattr(builtins, path.stem.strip("_")), path)
            self.assertNotIn(path.stem, LEFT_OUT)
            self.assertNotRegex(path.stem, r"^(test.*|site|conftest|sitecustomize|usercustomize)$")

    def test_each_file_keeps_to_the_rules(self):
        for path in self.paths:
            with self.subTest(file=path.name):
                self.assertEqual(faults(path.read_text()), [])

    def test_what_is_drawn_is_used(self):
        for file, tree in self.trees.items():
            drawn = {alias.name for node in tree.body if isinstance(node, ast.ImportFrom) for alias in node.names}
            self.assertEqual(drawn - {node.id for node in ast.walk(tree) if isinstance(node, ast.Name)}, set(), file)

    def test_methods_that_are_called(self):
        allowed = METHODS | own_methods(self.trees.values())
        for file, tree in self.trees.items():
            for node in ast.walk(tree):
                if isinstance(node, ast.Call) and isinstance(node.func, ast.Attribute):
                    self.assertIn(node.func.attr, allowed, (file, node.lineno))

    def test_no_name_is_a_method_and_a_value(self):
        self.assertEqual(own_methods(self.trees.values()) & own_values(self.trees.values()), set())

    def test_methods_and_values_are_called_like_none_of_python_s_own(self):
        taken = {name for kind in (str, int, list, dict, set, bytes) for name in dir(kind)}
        self.assertEqual(own_values(self.trees.values()) & taken, set())
        self.assertEqual((own_methods(self.trees.values()) - DUNDERS) & taken, set())

    def test_names_are_drawn_from_the_file_that_defines_them_and_in_no_ring(self):
        draws = {}
        for file, tree in self.trees.items():
            draws[file] = [node for node in tree.body if isinstance(node, ast.ImportFrom)]
            for node in draws[file]:
                source = self.trees[node.module.removeprefix("beltgarth.")]
                bound = [one.name for one in source.body if isinstance(one, (ast.FunctionDef, ast.ClassDef))]
                bound += [one.targets[0].id for one in source.body if isinstance(one, ast.Assign)]
                for alias in node.names:
                    self.assertIn(alias.name, bound, (file, node.lineno))
        left = {file: {node.module.removeprefix("beltgarth.") for node in draws[file]} for file in draws}
        while left:
            free = [file for file in left if not left[file] & set(left)]
            self.assertTrue(free, f"files that draw from one another: {sorted(left)}")
            left = {file: left[file] for file in left if file not in free}


class FaultsTest(unittest.TestCase):
    """That the looking above sees something at all."""

    def test_faults_are_seen(self):
        for text, rule in [
            ("import os\n", "L6/L7"), ("from os import path\n", "L2"), ("from .rows import reads\n", "L2"),
            ("def f(*args):\n    pass\n", "L4"), ("def f():\n    assert 1\n", "L6/L7"),
            ("def f():\n    a = b = 1\n", "L6"), ("def f():\n    return 1 / 2\n", "L6/L7"),
            ("def f():\n    return 1.5\n", "L7"), ("def f(x):\n    return {y for y in x}\n", "L6/L7"),
            ("def f(x):\n    return map(x)\n", "L8"), ("def f():\n" + "    pass\n" * 40, "L10"),
            ("X = 1" + " " * 120 + "\n", "L10"), ("def f():\n    _x = 1\n", "L12"), ("X = 1\nX = 2\n", "L15"),
            ("X = '\u00e4'\n", "L14"), ("def f(next):\n    pass\n", "L15"), ("# its type\n", "L17"),
            ("def f(x, y):\n    return x is y\n", "L20"), ("X = '%'\n", "L27"), ("for x in (1, 2):\n    pass\n", "L3"),
            ("from beltgarth.rows import reads\ndef f(reads):\n    pass\n", "L15"),
            ("def f(n):\n    return reversed(range(n))\n", "L23"), ("def f(n):\n    x = zip(n, n)\n", "L23"),
            ("def f(d):\n    return d.items()\n", "L23"), ("def f(n):\n    return max(range(n), n)\n", "L23"),
            ("def f(n):\n    x = set(n)\n", "L24"), ("def f(n):\n    for x in set(n):\n        pass\n", "L24"),
            ("def f(n):\n    return 2 ** n\n", "L27"), ("def f():\n    return 2 ** 65\n", "L27"),
        ]:
            self.assertIn(rule, [found for found, line in faults(text)], text)

    def test_what_keeps_to_the_rules_is_let_by(self):
        text = '"""Words."""\n\nX = (1, "a")\n\n\ndef f(a, b=0):\n    return [n for n in a if n is not None]\n'
        text += '\n\ndef g(a):\n    for n in range(3):\n        a[n] = sorted(set(a)) == list(reversed(a))\n'
        self.assertEqual(faults(text), [])


if __name__ == "__main__":
    unittest.main()
