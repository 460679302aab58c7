"""The form of the code: looks through the package for what ../shared/LANGUAGE.md rules out.

It finds what can be found by the form of the code alone; each breach is told as a text
that begins with the number of the rule.
"""

import ast
import builtins
import pathlib
import re
import unittest
import warnings

PACKAGE = "falsesums"
FOLDER = pathlib.Path(__file__).resolve().parent.parent / PACKAGE
ERRORS = {"Exception", "ValueError", "TypeError", "KeyError", "IndexError", "LookupError", "ZeroDivisionError",
          "ArithmeticError", "OverflowError", "RuntimeError", "NotImplementedError", "AttributeError", "StopIteration"}
BUILTINS = ERRORS | {"len", "range", "enumerate", "zip", "min", "max", "sum", "abs", "sorted", "reversed", "int", "str",
                     "bool", "bytes", "list", "tuple", "dict", "set", "frozenset", "isinstance", "ord", "repr", "any",
                     "all", "divmod"}
DUNDERS = {"__init__", "__eq__", "__repr__", "__str__", "__len__"}
METHODS = set("""append clear copy count endswith extend find get index insert isalnum isalpha isdigit islower isspace
    isupper items join keys ljust lower lstrip partition pop remove replace reverse rfind rjust rpartition rsplit rstrip
    setdefault split splitlines startswith strip update upper values zfill bit_length title capitalize swapcase casefold
    center expandtabs removeprefix removesuffix rindex isascii isdecimal isnumeric istitle isidentifier isprintable
    translate""".split())
STATEMENTS = (ast.Assign, ast.AugAssign, ast.AnnAssign, ast.If, ast.While, ast.For, ast.Return, ast.Break, ast.Continue,
              ast.Pass, ast.Raise, ast.Assert, ast.Delete, ast.Try, ast.Expr, ast.FunctionDef, ast.ClassDef,
              ast.ImportFrom)
BARRED_EXPRESSIONS = (ast.GeneratorExp, ast.NamedExpr, ast.Await, ast.Yield, ast.YieldFrom)
BARRED_NAMES = set("""register mro elements open input version_info with_traceback add_note attrgetter breakpoint builtins
    compile copyright credits delattr dir eval exec exit gc getattr globals hasattr help id importlib license locals
    methodcaller os quit setattr super type vars sys chr print format format_map""".split())
BARRED_WORDS = re.compile(r"\b(type|typing|typing_extensions|enum|Enum|IntEnum|StrEnum|Flag|IntFlag|Generic|Protocol|ABC|"
                          r"ABCMeta|namedtuple|NamedTuple|TypedDict|TYPE_CHECKING|abstractmethod)\b"
                          r"|dataclass|overload|contextmanager")
AT_ONCE = {"zip", "enumerate", "reversed", "range"}
TAKE_AT_ONCE = {"list", "tuple", "dict", "sorted", "sum", "any", "all", "enumerate", "zip", "bytes", "min", "max"}
BUILTIN_ATTRIBUTES = {name for kind in (str, int, list, dict, set, bytes) for name in dir(kind) if not name.startswith("__")}
FREE_METHODS = set("""append clear copy count endswith extend find get index insert isalnum isalpha isdigit islower isspace
    isupper join ljust lower lstrip partition pop remove replace reverse rfind rjust rpartition rsplit rstrip setdefault split
    splitlines startswith strip update upper zfill bit_length add discard""".split())
FREE_ATTRIBUTES = {"count", "index", "title", "find", "get", "join", "lower", "upper", "split", "strip", "copy", "add"}
BUILTIN_KEYWORDS = {"sorted": {"key", "reverse"}, "min": {"key", "default"}, "max": {"key", "default"}, "sum": {"start"},
                    "enumerate": {"start"}, "zip": {"strict"}}


def own_names(trees):
    """The methods, the attributes that are assigned, and the classes of all files."""
    methods, attributes, classes = set(), set(), set()
    for tree in trees.values():
        for node in ast.walk(tree):
            if isinstance(node, ast.ClassDef):
                classes.add(node.name)
                methods |= {item.name for item in node.body if isinstance(item, ast.FunctionDef)}
            if isinstance(node, ast.Attribute) and isinstance(node.ctx, ast.Store):
                attributes.add(node.attr)
    return methods, attributes, classes


def breaches(files):
    """What is amiss in a dict from file names to their texts."""
    trees = {name: ast.parse(text) for name, text in files.items()}
    methods, attributes, classes = own_names(trees)
    found = [f"L18 {name}: a method and an attribute" for name in sorted(methods & attributes)]
    found += import_breaches(trees)
    for name, text in files.items():
        told = text_breaches(text) + tree_breaches(trees[name], methods, attributes, classes)
        found += [f"{breach} ({name})" for breach in told]
        if not re.fullmatch(r"[a-z][a-z0-9_]*\.py|__init__\.py", name):
            found.append(f"L1 {name}")
    return found


def text_breaches(text):
    found = []
    lines = text.split("\n")
    if len(lines) > 401:
        found.append("L10 a file of more than 400 lines")
    for number, line in enumerate(lines, 1):
        if len(line) > 120:
            found.append(f"L10 line {number} is too long")
        if not all(" " <= sign <= "~" for sign in line):
            found.append(f"L14 line {number} has a sign that is not allowed")
        if BARRED_WORDS.search(line):
            found.append(f"L17 line {number}: {BARRED_WORDS.search(line).group()}")
        if re.search(r"\\[^nt\\'\"]", line):
            found.append(f"L27 line {number}: an escape")
    return found


def import_breaches(trees):
    """Imports from modules of the package alone, of names that they define, and not in a circle."""
    found, needs = [], {}
    for name, tree in trees.items():
        needs[name] = set()
        for node in ast.walk(tree):
            if isinstance(node, ast.Import):
                found.append(f"L16 {name}: import")
            if isinstance(node, ast.ImportFrom):
                source = f"{(node.module or '').removeprefix(PACKAGE + '.')}.py"
                if node not in tree.body or node.level or source not in trees:
                    found.append(f"L2 {name}: from {node.module}")
                    continue
                needs[name].add(source)
                defined = module_names(trees[source])
                found += [f"L16 {name}: {alias.name}" for alias in node.names if alias.name not in defined]
    for name in needs:
        reached, ahead = set(), list(needs[name])
        while ahead:
            one = ahead.pop()
            if one not in reached:
                reached.add(one)
                ahead += needs.get(one, ())
        if name in reached:
            found.append(f"L16 {name} imports itself in a circle")
    return found


def module_names(tree):
    names = set()
    for node in tree.body:
        if isinstance(node, (ast.FunctionDef, ast.ClassDef)):
            names.add(node.name)
        if isinstance(node, ast.Assign):
            names |= {target.id for target in node.targets if isinstance(target, ast.Name)}
    return names


def tree_breaches(tree, methods, attributes, classes):
    imported = {alias.asname or alias.name for node in tree.body if isinstance(node, ast.ImportFrom)
                for alias in node.names}
    here = {node.name for node in tree.body if isinstance(node, ast.ClassDef)}
    found = module_breaches(tree)
    for node in ast.walk(tree):
        for rule in (statement_breaches, expression_breaches, operator_breaches, function_breaches, error_breaches):
            found += [f"{breach} at line {node.lineno}" for breach in rule(node)]
        found += name_breaches(node, imported | here)
        found += attribute_breaches(node, methods, attributes)
        found += builtin_breaches(node, module_names(tree) | imported)
        if isinstance(node, ast.ClassDef):
            found += class_breaches(node)
        if isinstance(node, ast.AST):
            found += child_breaches(node, classes)
        for rule in (own_name_breaches, method_breaches, loop_breaches, set_breaches, literal_breaches):
            found += [f"{breach} at line {node.lineno}" for breach in rule(node)]
    return found + table_breaches(tree) + lambda_breaches(tree)


def module_breaches(tree):
    found, seen = [], set()
    for at, node in enumerate(tree.body):
        names = []
        if isinstance(node, ast.Assign):
            names = [target.id for target in node.targets if isinstance(target, ast.Name)]
            calls = (ast.Call, ast.ListComp, ast.DictComp, ast.SetComp, ast.Set, ast.Lambda)
            if len(node.targets) != 1 or not names or any(isinstance(part, calls) for part in ast.walk(node.value)):
                found.append(f"L3 line {node.lineno}: no plain value")
        elif isinstance(node, (ast.FunctionDef, ast.ClassDef)):
            names = [node.name]
        elif isinstance(node, ast.ImportFrom):
            names = [alias.asname or alias.name for alias in node.names]
        elif not (at == 0 and isinstance(node, ast.Expr) and isinstance(node.value, ast.Constant)):
            found.append(f"L3 line {node.lineno}: a statement at module level")
        found += [f"L15 {name} is bound twice" for name in names if name in seen]
        seen |= set(names)
    return found


def statement_breaches(node):
    if isinstance(node, ast.stmt) and not isinstance(node, STATEMENTS):
        yield f"L6 {node.__class__.__name__}"
    if isinstance(node, (ast.For, ast.While)) and node.orelse:
        yield "L6 else behind a loop"
    if isinstance(node, ast.Expr) and not isinstance(node.value, (ast.Call, ast.Constant)):
        yield "L6 an expression on its own"
    if isinstance(node, ast.FunctionDef) and node.end_lineno - node.lineno + 1 > 40:
        yield "L10 a function of more than 40 lines"


def expression_breaches(node):
    if isinstance(node, BARRED_EXPRESSIONS):
        yield f"L7 {node.__class__.__name__}"
    if isinstance(node, ast.Constant) and isinstance(node.value, (float, complex)):
        yield "L7 a number with a point"
    if isinstance(node, ast.Constant) and isinstance(node.value, (str, bytes)) and "%" in str(node.value):
        yield "L27 a percent sign"
    if isinstance(node, ast.FormattedValue) and node.format_spec is not None:
        yield "L7 a format"
    if isinstance(node, ast.FormattedValue) and any(isinstance(part, (ast.JoinedStr, ast.Constant))
                                                    and not isinstance(getattr(part, "value", 0), int)
                                                    for part in ast.walk(node.value)):
        yield "L27 a text within the braces of an f-string"


def operator_breaches(node):
    if isinstance(node, (ast.BinOp, ast.AugAssign)):
        if isinstance(node.op, (ast.Div, ast.MatMult)):
            yield "L7 a division"
        if isinstance(node.op, ast.Pow):
            power = node.right if isinstance(node, ast.BinOp) else node.value
            if not (isinstance(power, ast.Constant) and 0 <= power.value <= 64):
                yield "L27 a power"
    if isinstance(node, ast.Compare):
        for operator, right in zip(node.ops, node.comparators):
            if isinstance(operator, (ast.Is, ast.IsNot)):
                if not (isinstance(right, ast.Constant) and right.value in (None, True, False)):
                    yield "L20 is"


def function_breaches(node):
    if isinstance(node, (ast.FunctionDef, ast.Lambda)):
        if node.args.vararg or node.args.kwarg or node.args.posonlyargs:
            yield "L4 parameters"
        for default in node.args.defaults + [one for one in node.args.kw_defaults if one]:
            if not isinstance(default, (ast.Constant, ast.Name, ast.UnaryOp, ast.Tuple, ast.BinOp)):
                yield "L4 a default value"
    if isinstance(node, (ast.FunctionDef, ast.ClassDef)) and node.decorator_list:
        yield "L4 a decorator"


def error_breaches(node):
    if isinstance(node, ast.ExceptHandler):
        kinds = node.type.elts if isinstance(node.type, ast.Tuple) else [node.type]
        for kind in kinds:
            if not isinstance(kind, ast.Name) or kind.id in ERRORS - {"KeyError", "ZeroDivisionError", "StopIteration"}:
                yield "L19 what is caught"
    if isinstance(node, ast.Raise) and node.exc is not None:
        if not (isinstance(node.exc, ast.Call) and isinstance(node.exc.func, ast.Name)):
            yield "L19 what is raised"


def bound_names(node):
    if isinstance(node, ast.Name) and isinstance(node.ctx, ast.Store):
        return [node.id]
    if isinstance(node, ast.arg):
        return [node.arg]
    if isinstance(node, (ast.FunctionDef, ast.ClassDef)):
        return [node.name]
    if isinstance(node, ast.ExceptHandler) and node.name:
        return [node.name]
    return []


def name_breaches(node, taken):
    found = []
    for name in bound_names(node):
        if name.startswith("_") and name not in DUNDERS:
            found.append(f"L12 {name}")
        if name in BARRED_NAMES:
            found.append(f"L17 {name}")
        plain = isinstance(node, (ast.Name, ast.arg))
        if plain and (name in taken or hasattr(builtins, name)):
            found.append(f"L15 {name} has another meaning")
    return found


def attribute_breaches(node, methods, attributes):
    if not isinstance(node, ast.Attribute):
        return []
    found = []
    if node.attr in BARRED_NAMES or node.attr.startswith("_") and node.attr not in DUNDERS:
        found.append(f"L17 line {node.lineno}: {node.attr}")
    if node.attr not in methods | attributes | METHODS | {"add", "discard"}:
        found.append(f"L25 line {node.lineno}: {node.attr}")
    return found


def builtin_breaches(node, known):
    if isinstance(node, ast.Name) and isinstance(node.ctx, ast.Load) and hasattr(builtins, node.id):
        if node.id not in BUILTINS and node.id not in known:
            return [f"L8 line {node.lineno}: {node.id}"]
    if isinstance(node, ast.Call) and isinstance(node.func, ast.Name) and node.func.id in BUILTINS:
        allowed = BUILTIN_KEYWORDS.get(node.func.id, set())
        if any(keyword.arg not in allowed for keyword in node.keywords):
            return [f"L22 line {node.lineno}: a keyword"]
    return []


def class_breaches(node):
    found = []
    if len(node.bases) > 1 or node.keywords:
        found.append(f"L5 {node.name}: bases")
    for at, item in enumerate(node.body):
        if isinstance(item, ast.FunctionDef):
            if item.name.startswith("__") and item.name not in DUNDERS:
                found.append(f"L5 {node.name}: {item.name}")
            if item.name in DUNDERS - {"__init__"}:
                found += dunder_breaches(item)
        elif not (at == 0 and isinstance(item, ast.Expr) and isinstance(item.value, ast.Constant)):
            found.append(f"L5 {node.name}: a value in its body")
    names = [item.name for item in node.body if isinstance(item, ast.FunctionDef)]
    return found + [f"L18 {name} twice" for name in set(names) if names.count(name) > 1]


def dunder_breaches(item):
    found = []
    for part in ast.walk(item):
        if isinstance(part, (ast.Assign, ast.AugAssign, ast.For, ast.Delete)):
            found.append(f"L28 {item.name}: an assignment")
        if isinstance(part, ast.Return) and item.name != "__eq__":
            call = part.value.func.id if isinstance(part.value, ast.Call) and isinstance(part.value.func, ast.Name) else ""
            wanted = {"__len__": ("len",)}.get(item.name, ("str", "repr"))
            if not isinstance(part.value, (ast.Constant, ast.JoinedStr)) and call not in wanted:
                found.append(f"L28 {item.name}: what it returns")
    return found


def calls(node, names):
    return isinstance(node, ast.Call) and isinstance(node.func, ast.Name) and node.func.id in names


def child_breaches(node, classes):
    """What may stand only within certain other things: sets, ranges and the like, stars, classes."""
    found = []
    for name, value in ast.iter_fields(node):
        for child in value if isinstance(value, list) else [value]:
            if not isinstance(child, ast.AST):
                continue
            inside = isinstance(node, (ast.For, ast.comprehension)) and name == "iter"
            if calls(child, AT_ONCE) and not (inside or calls(node, TAKE_AT_ONCE) or isinstance(node, ast.Compare)):
                found.append(f"L23 line {child.lineno}")
            if calls(child, {"set"}) or isinstance(child, (ast.Set, ast.SetComp)):
                stored = isinstance(node, ast.Assign) and isinstance(node.targets[0], ast.Name)
                if not (stored or calls(node, {"sorted", "len"}) or isinstance(node, (ast.Compare, ast.BinOp))):
                    found.append(f"L24 line {child.lineno}")
            if isinstance(child, ast.Starred) and not isinstance(child.ctx, ast.Store):
                found.append(f"L7 line {child.lineno}: a star")
            if isinstance(child, ast.Name) and child.id in classes and not class_use(node, name, child):
                found.append(f"L18 line {child.lineno}: {child.id}")
    return found


def class_use(node, name, child):
    if isinstance(node, ast.Call):
        return node.func is child or calls(node, {"isinstance"}) and node.args[1] is child
    if isinstance(node, ast.Attribute):
        return node.attr == "__init__"
    return isinstance(node, (ast.ClassDef, ast.ExceptHandler, ast.Tuple))


def own_name_breaches(node):
    """L26: methods and attributes that builtin values have under the same name."""
    if isinstance(node, ast.ClassDef):
        for item in node.body:
            if isinstance(item, ast.FunctionDef) and item.name in BUILTIN_ATTRIBUTES - FREE_METHODS:
                yield f"L26 {item.name}"
    if isinstance(node, ast.Attribute) and isinstance(node.ctx, ast.Store):
        if node.attr in BUILTIN_ATTRIBUTES - FREE_ATTRIBUTES | {"args", "format"}:
            yield f"L26 {node.attr}"


def method_breaches(node):
    """L22, L25: methods of builtin values have no keywords, and are called where they stand; builtins have their arguments."""
    takes = {"len": (1, 1), "abs": (1, 1), "sorted": (1, 1), "any": (1, 1), "all": (1, 1), "sum": (1, 2), "reversed": (1, 1),
             "enumerate": (1, 2), "list": (0, 1), "tuple": (0, 1), "dict": (0, 1), "set": (0, 1), "str": (0, 1), "bool": (0, 1),
             "int": (0, 2), "ord": (1, 1), "repr": (1, 1), "isinstance": (2, 2), "range": (1, 3), "divmod": (2, 2)}
    if isinstance(node, ast.Call) and isinstance(node.func, ast.Name) and node.func.id in takes:
        fewest, most = takes[node.func.id]
        if not fewest <= len(node.args) <= most:
            yield f"L22 {node.func.id}"
    if isinstance(node, ast.Call) and isinstance(node.func, ast.Attribute):
        if node.func.attr in METHODS and node.keywords:
            yield f"L25 {node.func.attr}: a keyword"
        if node.func.attr == "sort":
            yield "L25 sort"


def modified(node):
    """What this statement or call modifies: the things themselves, not what stands in them."""
    modifying = {"append", "clear", "extend", "insert", "pop", "remove", "reverse", "setdefault", "update", "add", "discard"}
    found = []
    if isinstance(node, ast.Call) and isinstance(node.func, ast.Attribute) and node.func.attr in modifying:
        found.append(ast.unparse(node.func.value))
    targets = node.targets if isinstance(node, (ast.Assign, ast.Delete)) else [node.target] if isinstance(node, ast.AugAssign) else []
    found += [ast.unparse(target.value) for target in targets if isinstance(target, ast.Subscript)]
    if isinstance(node, ast.AugAssign):
        found.append(ast.unparse(node.target))
    return found


def iterated(node):
    """What a loop goes over, also through enumerate, zip and the like."""
    if calls(node, {"enumerate", "zip", "reversed"}):
        return [one for part in node.args for one in iterated(part)]
    if isinstance(node, ast.Call) and isinstance(node.func, ast.Attribute) and node.func.attr in ("items", "keys", "values"):
        return [ast.unparse(node.func.value)]
    return [ast.unparse(node)]


def loop_breaches(node):
    if isinstance(node, ast.For):
        over = iterated(node.iter)
        for part in node.body:
            for inner in ast.walk(part):
                if set(modified(inner)) & set(over):
                    yield f"L23 {ast.unparse(inner)}"


def set_breaches(node):
    """L24: a set that is stored is assigned once, and only asked, added to and counted."""
    if not isinstance(node, ast.FunctionDef):
        return
    made = [part for part in ast.walk(node) if isinstance(part, ast.Assign)
            and (calls(part.value, {"set"}) or isinstance(part.value, (ast.Set, ast.SetComp)))]
    for assigned in made:
        name = assigned.targets[0].id
        allowed = {id(assigned.targets[0])}
        for part in ast.walk(node):
            if isinstance(part, ast.Compare):
                allowed |= {id(right) for right in part.comparators}
            if isinstance(part, ast.Call) and isinstance(part.func, ast.Attribute) and part.func.attr in ("add", "discard"):
                allowed.add(id(part.func.value))
            if calls(part, {"len", "sorted"}):
                allowed |= {id(argument) for argument in part.args}
            if isinstance(part, (ast.If, ast.While)):
                allowed.add(id(part.test))
        for part in ast.walk(node):
            if isinstance(part, ast.Name) and part.id == name and id(part) not in allowed:
                yield f"L24 {name}"


def literal_breaches(node):
    """L13: a set of three whole numbers or more is not written out, but where it is asked on the spot."""
    for name, value in ast.iter_fields(node):
        for child in value if isinstance(value, list) else [value]:
            if isinstance(child, ast.Set) and not isinstance(node, ast.Compare):
                if len([one for one in child.elts if isinstance(one, ast.Constant) and isinstance(one.value, int)]) > 2:
                    yield "L13 a set"


def lambda_breaches(tree):
    """L13: two lambdas with the same parameters on one line."""
    seen = [(node.lineno, tuple(one.arg for one in node.args.args)) for node in ast.walk(tree) if isinstance(node, ast.Lambda)]
    return [f"L13 two lambdas at line {one[0]}" for one in set(seen) if seen.count(one) > 1]


def table_breaches(tree):
    """L15: lists and dicts at module level have none in them, and are only read."""
    tables, found = set(), []
    for node in tree.body:
        if isinstance(node, ast.Assign) and isinstance(node.value, (ast.List, ast.Dict)):
            tables.add(node.targets[0].id)
            inner = [part for part in ast.walk(node.value) if isinstance(part, (ast.List, ast.Dict))]
            if len(inner) > 1:
                found.append(f"L15 line {node.lineno}: a table in a table")
    for node in ast.walk(tree):
        if isinstance(node, (ast.stmt, ast.Call)):
            found += [f"L15 {name} is modified" for name in modified(node) if name.split("[")[0] in tables]
        if isinstance(node, (ast.Return, ast.Assign)) and isinstance(node.value, ast.Name) and node.value.id in tables:
            found.append(f"L15 {node.value.id} is given away")
    return found


class Package(unittest.TestCase):
    def test_only_python_files(self):
        names = [path.name for path in FOLDER.iterdir() if path.name != "__pycache__"]
        self.assertIn("__init__.py", names)
        self.assertEqual([name for name in names if not name.endswith(".py")], [])

    def test_no_rule_is_broken(self):
        files = {path.name: path.read_bytes().decode("ascii") for path in sorted(FOLDER.glob("*.py"))}
        self.assertEqual(breaches(files), [])

    def test_python_warns_of_nothing(self):
        with warnings.catch_warnings():
            warnings.simplefilter("error")
            for path in FOLDER.glob("*.py"):
                compile(path.read_text(), str(path), "exec")

    def test_tests_stand_beside_the_package(self):
        self.assertEqual(list(FOLDER.glob("*test*")), [])


class Looking(unittest.TestCase):
    """What looks through the package finds what is amiss."""

    CASES = {
        "L2": "from math import gcd\n",
        "L3": "print('a')\n",
        "L4": "def one(*many):\n    return many\n",
        "L5": "class One:\n    many = 3\n",
        "L6": "def one(many):\n    for k in many:\n        pass\n    else:\n        return 1\n",
        "L7": "def one(many):\n    return many / 2\n",
        "L8": "def one(many):\n    return hash(many)\n",
        "L10": "def one(many):\n" + "    many += 1\n" * 40 + "    return many\n",
        "L12": "def one(_many):\n    return 1\n",
        "L13": "def one(many):\n    return sorted({1, 2, 3})\n",
        "L14": "# caf\u00e9\n",
        "L15": "def one(list):\n    return 1\n",
        "L16": "import sys\n",
        "L17": "# the type of it\n",
        "L18": "class One:\n    def one(self):\n        self.one = 1\n",
        "L19": "def one(many):\n    try:\n        return many\n    except ValueError:\n        return 1\n",
        "L20": "def one(many):\n    return many is 'a'\n",
        "L22": "def one(many):\n    return int(many, base=3)\n",
        "L23": "def one(many):\n    rows = range(many)\n    return rows\n",
        "L24": "def one(many):\n    return set(many)\n",
        "L25": "def one(many):\n    return many.partitioned()\n",
        "L26": "class One:\n    def decode(self):\n        return 1\n",
        "L27": "def one(many):\n    return 2 ** many\n",
        "L28": "class One:\n    def __len__(self):\n        return 1 + 1\n",
    }

    def test_each_rule(self):
        for rule, text in self.CASES.items():
            with self.subTest(rule=rule):
                self.assertTrue([told for told in breaches({"one.py": text}) if told.startswith(rule + " ")])

    MORE_CASES = [
        ("L13", "def one(xs):\n    return sorted(xs, key=lambda x: x), sorted(xs, key=lambda x: -x)\n"),
        ("L15", "TABLE = [1]\n\n\ndef one(many):\n    TABLE.append(many)\n"),
        ("L15", "TABLE = {1: [2]}\n"),
        ("L15", "TABLE = {1: 2}\n\n\ndef one():\n    return TABLE\n"),
        ("L22", "def one(many):\n    return len(many, many)\n"),
        ("L23", "def one(xs):\n    for x in xs:\n        xs.append(x)\n"),
        ("L23", "def one(xs):\n    for at, x in enumerate(xs):\n        xs[at] = 1\n"),
        ("L23", "def one(xs):\n    for x in xs.items():\n        del xs[x]\n"),
        ("L24", "def one(xs):\n    seen = set(xs)\n    return seen\n"),
        ("L24", "def one(xs):\n    seen = set(xs)\n    return [x for x in seen]\n"),
        ("L25", "def one(xs):\n    xs.sort()\n"),
        ("L25", "def one(x):\n    return x.split(sep='a')\n"),
        ("L26", "class One:\n    def one(self):\n        self.items = 1\n"),
    ]

    def test_more_of_some_rules(self):
        for rule, text in self.MORE_CASES:
            with self.subTest(rule=rule, text=text):
                self.assertTrue([told for told in breaches({"one.py": text}) if told.startswith(rule + " ")])

    def test_right_code(self):
        for text in ("def one(many):\n    return [k * 2 for k in range(many) if k in (1, 2)]\n",
                     "def one(xs):\n    seen = set()\n    for x in xs:\n        if x not in seen:\n            seen.add(x)\n"
                     "    return sorted(seen)\n",
                     "TABLE = {1: (2, 3)}\n\n\ndef one(k):\n    return dict(TABLE) if k in TABLE else TABLE[k]\n",
                     "def one(xs):\n    for x in list(xs):\n        xs.append(x)\n"):
            self.assertEqual(breaches({"one.py": text}), [])


if __name__ == "__main__":
    unittest.main()
