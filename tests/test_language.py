"""The package's files keep to LANGUAGE.md, as far as it can be seen from their trees.

Where a rule leaves a choice that the program does not need (sets, annotations), the test is the narrower one.
"""

import ast
import builtins
import pathlib
import re
import unittest

PACKAGE = pathlib.Path(__file__).resolve().parent.parent / "skewread"
OWN_NAMES = """len range enumerate zip min max sum abs sorted reversed int str bool list tuple dict isinstance ord repr any
all divmod Exception ValueError TypeError KeyError IndexError LookupError ZeroDivisionError ArithmeticError OverflowError
RuntimeError NotImplementedError StopIteration""".split()
OWN_METHODS = """append clear copy count endswith extend find get index insert isalnum isalpha isdigit islower isspace isupper
items join keys ljust lower lstrip partition pop remove replace reverse rfind rjust rpartition rsplit rstrip setdefault split
splitlines startswith strip update upper values zfill bit_length""".split()
VALUE_NAMES = "count index title find get join lower upper split strip copy add".split()
WALKED = ["zip", "enumerate", "reversed", "range"]
WALKERS = "list tuple dict sorted sum any all enumerate zip min max".split()
KEYWORDS = {"sorted": ["key", "reverse"], "min": ["key", "default"], "max": ["key", "default"], "sum": ["start"],
            "enumerate": ["start"], "zip": ["strict"]}
UNUSED = """register mro elements open input version_info with_traceback add_note attrgetter breakpoint builtins compile
copyright credits delattr dir eval exec exit gc getattr globals hasattr help id importlib license locals methodcaller os
quit setattr super vars sys format format_map""".split()
NOWHERE = re.compile(r"\b(type|typing|typing_extensions|enum|Enum|IntEnum|StrEnum|Flag|IntFlag|Generic|Protocol|ABC|ABCMeta|"
                     r"namedtuple|NamedTuple|TypedDict|TYPE_CHECKING|abstractmethod)\b|dataclass|overload|contextmanager")
STATEMENTS = (ast.Assign, ast.AugAssign, ast.If, ast.While, ast.For, ast.Return, ast.Break, ast.Continue, ast.Pass, ast.Raise,
              ast.Try, ast.Expr, ast.FunctionDef)
EXPRESSIONS = (ast.Constant, ast.List, ast.Tuple, ast.Dict, ast.BinOp, ast.UnaryOp, ast.Compare, ast.BoolOp, ast.IfExp,
               ast.Call, ast.Attribute, ast.Subscript, ast.Slice, ast.ListComp, ast.JoinedStr, ast.FormattedValue, ast.Name,
               ast.Lambda)
METHODS = ["__init__", "__eq__", "__repr__", "__str__", "__len__"]
PYTHONS_OWN = {name for kind in (str, int, list, dict, set, bytes, tuple) for name in dir(kind)}


def is_plain(node):
    """Whether this is a plain value of a file's top."""
    if isinstance(node, (ast.List, ast.Tuple)):
        return all(is_plain(part) and not isinstance(part, (ast.List, ast.Dict)) for part in node.elts)
    if isinstance(node, ast.Dict):
        return all(part is not None and is_plain(part) and not isinstance(part, (ast.List, ast.Dict))
                   for part in node.keys + node.values)
    if isinstance(node, ast.UnaryOp):
        return isinstance(node.op, ast.USub) and is_plain(node.operand)
    return isinstance(node, ast.Name) or isinstance(node, ast.Constant) and (
        node.value is None or type(node.value) in (int, str, bool))


def is_docstring(node):
    return isinstance(node, ast.Expr) and isinstance(node.value, ast.Constant) and isinstance(node.value.value, str)


def text_faults(name, source):
    """L1, L10, L14, L17, L27: what is seen without the tree."""
    if re.fullmatch("[a-z][a-z0-9_]*|__init__|__main__", name) is None:
        yield "L14 a file's name"
    if re.fullmatch("[ -~\n]*", source) is None:
        yield "L14 a strange sign"
    rows = source.split("\n")
    if len(rows) > 401 or any(len(row) > 120 for row in rows):
        yield "L10 too long"
    if NOWHERE.search(source):
        yield "L17 a word that stands nowhere"


def top_faults(tree, package):
    """L2, L3, L15, L16: the top of a file; package tells what each file defines."""
    bound = []
    for place, node in enumerate(tree.body):
        if isinstance(node, ast.ImportFrom):
            short = (node.module or "").partition(".")[2]
            if node.level or short not in package or any(part.asname for part in node.names):
                yield "L2 an import"
            elif any(part.name not in package[short] for part in node.names):
                yield "L16 not from the file that defines it"
            bound += [part.name for part in node.names]
        elif isinstance(node, (ast.FunctionDef, ast.ClassDef)):
            bound.append(node.name)
        elif isinstance(node, ast.Assign) and len(node.targets) == 1 and isinstance(node.targets[0], ast.Name):
            bound.append(node.targets[0].id)
            if not is_plain(node.value):
                yield "L3 no plain value"
        elif place != 0 or not is_docstring(node):
            yield "L3 the top of a file"
    if len(set(bound)) != len(bound):
        yield "L15 bound twice"


def def_faults(node, shadowed):
    """L4, L10, L15, L21: one def."""
    spec = node.args
    if spec.vararg or spec.kwarg or spec.kwonlyargs or spec.posonlyargs or node.decorator_list:
        yield "L4 parameters"
    if any(not is_plain(part) for part in spec.defaults):
        yield "L4 defaults"
    if node.returns or any(part.annotation for part in spec.args):
        yield "L21 annotations"
    if node.end_lineno - node.lineno >= 40:
        yield "L10 a long def"
    stored = [part.id for part in ast.walk(node) if isinstance(part, ast.Name) and isinstance(part.ctx, ast.Store)]
    for name in [part.arg for part in spec.args] + stored:
        if name in shadowed or hasattr(builtins, name):
            yield "L15 a local called like another name"


def class_faults(node):
    """L5, L18, L26, L28: one class."""
    if len(node.bases) > 1 or node.keywords or node.decorator_list:
        yield "L5 bases"
    names = [part.name for part in node.body if isinstance(part, ast.FunctionDef)]
    if len(set(names)) != len(names):
        yield "L18 a method twice"
    for place, part in enumerate(node.body):
        if not isinstance(part, (ast.FunctionDef, ast.Pass)) and not (place == 0 and is_docstring(part)):
            yield "L5 a value in a class"
    for name in names:
        if name not in METHODS + OWN_METHODS + ["add", "discard"] and (name in PYTHONS_OWN or name.startswith("_")):
            yield "L26 a method's name"


def statement_faults(node):
    """L6, L19: one statement within a def."""
    if not isinstance(node, STATEMENTS):
        yield "L6 a statement"
    elif isinstance(node, ast.Assign) and len(node.targets) != 1:
        yield "L6 targets"
    elif isinstance(node, (ast.For, ast.While)) and node.orelse or isinstance(node, ast.Try) and node.finalbody:
        yield "L6 else or finally"
    elif isinstance(node, ast.Try):
        for handler in node.handlers:
            if handler.type is None or getattr(handler.type, "id", "") in ("Exception", "TypeError"):
                yield "L19 a handler"
    elif isinstance(node, ast.Raise) and not isinstance(node.exc, ast.Call):
        yield "L19 raised otherwise than on the spot"
    elif isinstance(node, ast.Expr) and not isinstance(node.value, ast.Call) and not is_docstring(node):
        yield "L6 no call by itself"


def expression_faults(node):
    """L7, L20, L24, L27: one expression."""
    if not isinstance(node, EXPRESSIONS):
        yield "L7 an expression"
    elif isinstance(node, ast.Constant) and node.value is not None and type(node.value) not in (int, str, bool):
        yield "L7 a value"
    elif isinstance(node, ast.Constant) and isinstance(node.value, str) and "%" in node.value:
        yield "L27 a percent sign"
    elif isinstance(node, ast.BinOp) and isinstance(node.op, (ast.Div, ast.MatMult)):
        yield "L7 an operator"
    elif isinstance(node, ast.BinOp) and isinstance(node.op, ast.Pow) and not isinstance(node.right, ast.Constant):
        yield "L27 an exponent"
    elif isinstance(node, ast.ListComp) and (len(node.generators) != 1 or len(node.generators[0].ifs) > 1):
        yield "L7 a comprehension"
    elif isinstance(node, ast.FormattedValue) and not (isinstance(node.value, ast.Name) and node.format_spec is None):
        yield "L7 an f-string"
    elif isinstance(node, ast.Compare) and any(isinstance(op, (ast.Is, ast.IsNot)) for op in node.ops):
        if not all(isinstance(part, ast.Constant) and part.value in (None, True, False) for part in node.comparators):
            yield "L20 is"


def call_faults(node, above, own_methods):
    """L22, L23, L25: one call."""
    if isinstance(node.func, ast.Attribute) and node.func.attr not in OWN_METHODS + own_methods + ["__init__"]:
        yield "L25 a method"
    name = getattr(node.func, "id", "")
    if any(word.arg not in KEYWORDS.get(name, []) for word in node.keywords):
        yield "L22 a keyword"
    walks = name in WALKED or isinstance(node.func, ast.Attribute) and node.func.attr in ("items", "keys", "values")
    joined = isinstance(above, ast.Call) and isinstance(above.func, ast.Attribute) and above.func.attr == "join"
    walked = joined or isinstance(above, ast.Call) and getattr(above.func, "id", "") in WALKERS
    if walks and not walked and not isinstance(above, (ast.For, ast.comprehension)):
        yield "L23 kept, not walked"


def name_faults(node, above, classes):
    """L8, L12, L17, L18, L22, L26: one name or attribute."""
    name = node.id if isinstance(node, ast.Name) else node.attr
    if re.fullmatch("[A-Za-z][A-Za-z0-9_]*|__init__", name) is None:
        yield "L12 a name"
    if name in UNUSED:
        yield "L17 a name"
    called = isinstance(above, ast.Call) and above.func == node
    if isinstance(node, ast.Attribute):
        if isinstance(node.ctx, ast.Store) and name in PYTHONS_OWN and name not in VALUE_NAMES or name == "args":
            yield "L26 a value's name"
        if not called and name in OWN_METHODS and name not in VALUE_NAMES:
            yield "L25 a method handed on"
    elif hasattr(builtins, name):
        if name not in OWN_NAMES:
            yield "L8 a name of Python's own"
        elif not called and name.islower() and not isinstance(above, (ast.Call, ast.keyword, ast.Tuple)):
            yield "L22 kept as a value"
    elif name in classes and not called and not isinstance(
            above, (ast.Call, ast.Tuple, ast.ExceptHandler, ast.ClassDef, ast.Attribute)):
        yield "L18 a class as a value"


def faults(tree, package, own_methods):
    """All faults that the tree shows, each with its row."""
    above = {below: node for node in ast.walk(tree) for below in ast.iter_child_nodes(node)}
    classes = [node.name for node in tree.body if isinstance(node, ast.ClassDef)]
    drawn = [part.name for node in tree.body if isinstance(node, ast.ImportFrom) for part in node.names]
    found = [(fault, 1) for fault in top_faults(tree, package)]
    for node in ast.walk(tree):
        told = []
        if isinstance(node, ast.FunctionDef):
            told += def_faults(node, classes + drawn)
        if isinstance(node, ast.ClassDef):
            told += class_faults(node)
            told += [] if above[node] == tree else ["L15 a class within"]
        elif isinstance(node, ast.stmt) and above[node] != tree:
            told += statement_faults(node)
        if isinstance(node, ast.expr):
            told += expression_faults(node)
        if isinstance(node, ast.Call):
            told += call_faults(node, above[node], own_methods)
        if isinstance(node, (ast.Name, ast.Attribute)):
            told += name_faults(node, above[node], classes + [name for name in drawn if name[0].isupper()
                                                             and not name.isupper()])
        found += [(fault, node.lineno) for fault in told]
    return found


def top_names(tree):
    """What the file defines itself."""
    return [node.name for node in tree.body if isinstance(node, (ast.FunctionDef, ast.ClassDef))] + [
        node.targets[0].id for node in tree.body if isinstance(node, ast.Assign)]


def methods_of(trees):
    return [part.name for tree in trees for node in tree.body if isinstance(node, ast.ClassDef)
            for part in node.body if isinstance(part, ast.FunctionDef)]


class Language(unittest.TestCase):

    def setUp(self):
        self.sources = {path.stem: path.read_text(encoding="utf-8") for path in PACKAGE.glob("*.py")}
        self.trees = {name: ast.parse(source) for name, source in self.sources.items()}

    def test_nothing_else_lies_in_the_package(self):
        found = [path for path in PACKAGE.iterdir() if path.name != "__pycache__"]
        self.assertEqual([path.name for path in found if path.suffix != ".py" or not path.is_file()], [])
        self.assertIn("__init__", self.sources)

    def test_files_keep_to_the_rules(self):
        package = {name: top_names(tree) for name, tree in self.trees.items()}
        own_methods = methods_of(self.trees.values())
        for name, tree in self.trees.items():
            self.assertEqual(list(text_faults(name, self.sources[name])), [], name)
            self.assertEqual(faults(tree, package, own_methods), [], name)

    def test_no_two_files_draw_from_one_another(self):
        drawn = {name: [node.module.partition(".")[2] for node in tree.body if isinstance(node, ast.ImportFrom)]
                 for name, tree in self.trees.items()}
        self.assertEqual(drawn["__init__"], [])
        while drawn:
            free = [name for name in drawn if not any(other in drawn for other in drawn[name])]
            self.assertNotEqual(free, [], f"a ring within {sorted(drawn)}")
            drawn = {name: others for name, others in drawn.items() if name not in free}

    def test_no_name_is_a_method_and_a_value(self):
        values = [node.attr for tree in self.trees.values() for node in ast.walk(tree)
                  if isinstance(node, ast.Attribute) and isinstance(node.ctx, ast.Store)]
        self.assertEqual([name for name in values if name in methods_of(self.trees.values())], [])

    def test_what_the_rules_rule_out_is_seen(self):
        for rule, source in (
                ("L3", "import re"), ("L2", "from .errors import SkewError"), ("L3", "x = len('a')"), ("L3", "print(1)"),
                ("L4", "def f(*xs):\n    return 1"), ("L5", "class A:\n    x = 1"), ("L6", "def f(x):\n    del x"),
                ("L7", "def f(x):\n    return x / 2"), ("L7", "def f(x):\n    return 1.5"),
                ("L7", "def f(xs):\n    return {x for x in xs}"), ("L7", "def f(xs):\n    return any(x for x in xs)"),
                ("L7", "def f(x):\n    return b'a'"), ("L8", "def f(x):\n    return hash(x)"),
                ("L10", "def f(x):\n" + "    x = 1\n" * 40), ("L12", "def f(x):\n    _y = x"),
                ("L15", "x = 1\nx = 2"), ("L15", "def f(min):\n    return 1"), ("L16", "from skewread.errors import None_"),
                ("L17", "def f(x):\n    return x.open"), ("L18", "class A:\n    pass\n\n\ndef f():\n    return [A]"),
                ("L19", "def f(x):\n    try:\n        g()\n    except TypeError:\n        pass"),
                ("L20", "def f(x, y):\n    return x is y"), ("L21", "def f(x: int):\n    return x"),
                ("L22", "def f(x):\n    return list(x, key=1)"), ("L23", "def f(x):\n    y = zip(x, x)"),
                ("L23", "def f(x):\n    return [y for y in reversed(range(x))]"), ("L23", "def f(x):\n    g(x.items())"),
                ("L25", "def f(x):\n    x.sort()"), ("L26", "class A:\n    def title(self):\n        return 1"),
                ("L27", "def f(n):\n    return 2 ** n"), ("L27", "def f(n):\n    return '%'")):
            found = faults(ast.parse(source), {"errors": ["SkewError"]}, [])
            self.assertIn(rule, [fault.split()[0] for fault, row in found], source)
        for rule, source in (("L10", "x" * 121), ("L10", "\n" * 401), ("L14", "\u00e9"), ("L14", "\t"), ("L17", "# a type")):
            self.assertIn(rule, [fault.split()[0] for fault in text_faults("a", source)], source)


if __name__ == "__main__":
    unittest.main()
