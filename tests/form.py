"""Finds breaches of some of the language's rules in the package's files; no fault found is no proof of none."""

import ast
import builtins
import re

NODES = """Module FunctionDef ClassDef Return Assign AugAssign For While If Raise Try Expr Pass Break Continue ImportFrom
alias BoolOp And Or BinOp Add Sub Mult FloorDiv Mod Pow LShift RShift BitOr BitXor BitAnd UnaryOp Invert Not USub UAdd
Lambda IfExp Dict Set List Tuple ListComp comprehension Compare Eq NotEq Lt LtE Gt GtE Is IsNot In NotIn Call keyword
JoinedStr FormattedValue Constant Attribute Subscript Slice Name Load Store arguments arg ExceptHandler""".split()
OWN_NAMES = """len range enumerate zip min max sum abs sorted reversed int str bool list tuple dict set frozenset isinstance
ord repr any all divmod Exception ValueError TypeError KeyError IndexError LookupError ZeroDivisionError ArithmeticError
OverflowError RuntimeError NotImplementedError AttributeError StopIteration""".split()
METHODS = """append clear copy count endswith extend find get index insert isalnum isalpha isdigit islower isspace isupper
items join keys ljust lower lstrip partition pop remove replace reverse rfind rjust rpartition rsplit rstrip setdefault
split splitlines startswith strip update upper values zfill bit_length""".split()
DUNDERS = ["__init__", "__eq__", "__repr__", "__str__", "__len__"]
UNUSED = """register mro elements open input version_info with_traceback add_note attrgetter breakpoint builtins compile
copyright credits delattr dir eval exec exit gc getattr globals hasattr help id importlib license locals methodcaller os
quit setattr super type vars sys format format_map""".split()
WORDS = re.compile(r"\b(type|typing|typing_extensions|enum|Enum|IntEnum|StrEnum|Flag|IntFlag|Generic|Protocol|ABC|ABCMeta"
                   r"|namedtuple|NamedTuple|TypedDict|TYPE_CHECKING|abstractmethod)\b|dataclass|overload|contextmanager")


def text_faults(text):
    rows = text.split("\n")
    faults = [(number, "L10 length") for number, row in enumerate(rows, 1) if len(row) > 120]
    faults += [(number, "L14 sign") for number, row in enumerate(rows, 1) if re.search(r"[^ -~]", row)]
    faults += [(number, "L17 word") for number, row in enumerate(rows, 1) if WORDS.search(row)]
    return faults + ([(len(rows), "L10 file")] if len(rows) > 401 else [])


def bound_names(node):
    if isinstance(node, (ast.FunctionDef, ast.ClassDef)):
        return [node.name]
    if isinstance(node, ast.arg):
        return [node.arg]
    if isinstance(node, ast.Name) and isinstance(node.ctx, ast.Store):
        return [node.id]
    if isinstance(node, ast.Attribute) and isinstance(node.ctx, ast.Store):
        return [node.attr]
    return []


def name_faults(node):
    faults = []
    for name in bound_names(node):
        if isinstance(node, ast.FunctionDef) and name in DUNDERS:
            continue
        if name.startswith("_"):
            faults.append("L12 name")
        if name in UNUSED:
            faults.append("L17 name")
        if hasattr(builtins, name) and not isinstance(node, ast.Attribute):
            faults.append("L15 a name of Python's own")
    if isinstance(node, ast.Name) and hasattr(builtins, node.id) and node.id not in OWN_NAMES:
        faults.append("L8 name")
    return faults


def function_faults(node):
    faults = ["L10 function"] if node.end_lineno - node.lineno >= 40 else []
    given = node.args
    if given.vararg or given.kwarg or given.kwonlyargs or given.posonlyargs:
        faults.append("L4 parameters")
    return faults + (["L4 decorator"] if node.decorator_list else [])


def class_faults(node):
    faults = ["L5 class"] if len(node.bases) > 1 or node.keywords or node.decorator_list else []
    if not all(isinstance(part, (ast.FunctionDef, ast.Pass)) for part in node.body):
        faults.append("L5 body")
    return faults


def compare_faults(node):
    sides = [node.left] + node.comparators
    if any(isinstance(sign, (ast.Is, ast.IsNot)) for sign in node.ops):
        if not any(isinstance(side, ast.Constant) and side.value in (None, True, False) for side in sides):
            return ["L20 is"]
    return []


def call_faults(node, methods):
    called = node.func
    if any(isinstance(given, ast.Starred) for given in node.args) or any(word.arg is None for word in node.keywords):
        return ["L7 star"]
    if isinstance(called, ast.Attribute) and called.attr not in METHODS + methods + DUNDERS:
        return ["L25 method"]
    return []


def value_faults(node):
    if isinstance(node, ast.Constant):
        if not (node.value is None or isinstance(node.value, (bool, int, str))):
            return ["L7 value"]
        return ["L27 text"] if isinstance(node.value, str) and "%" in node.value else []
    if isinstance(node, ast.ListComp) and (len(node.generators) > 1 or len(node.generators[0].ifs) > 1):
        return ["L7 comprehension"]
    if isinstance(node, ast.Assign) and len(node.targets) > 1:
        return ["L6 targets"]
    if isinstance(node, (ast.For, ast.While)) and node.orelse or isinstance(node, ast.Try) and node.finalbody:
        return ["L6 else or finally"]
    if isinstance(node, ast.BinOp) and isinstance(node.op, ast.Pow) and not isinstance(node.right, ast.Constant):
        return ["L27 power"]
    return []


def import_faults(node, package):
    inside = node.module is not None and node.module.startswith(package + ".") and node.level == 0
    plain = all(part.name != "*" and part.asname is None for part in node.names)
    return [] if plain and (inside or node.module == "__future__") else ["L2 import"]


def node_faults(node, package, methods):
    faults = [] if type(node).__name__ in NODES else ["L6 or L7 " + type(node).__name__]
    faults += name_faults(node) + value_faults(node)
    if isinstance(node, ast.FunctionDef):
        faults += function_faults(node)
    if isinstance(node, ast.ClassDef):
        faults += class_faults(node)
    if isinstance(node, ast.Compare):
        faults += compare_faults(node)
    if isinstance(node, ast.Call):
        faults += call_faults(node, methods)
    if isinstance(node, ast.ImportFrom):
        faults += import_faults(node, package)
    if isinstance(node, ast.Expr) and not isinstance(node.value, ast.Call):
        faults.append("L6 statement")
    return faults


def top_faults(body):
    kinds = (ast.ImportFrom, ast.FunctionDef, ast.ClassDef, ast.Assign)
    names = [name for node in body for part in [node] + getattr(node, "targets", []) for name in bound_names(part)]
    faults = [(node.lineno, "L3 top") for node in body if not isinstance(node, kinds)]
    return faults + [(1, "L15 bound twice " + name) for name in set(names) if names.count(name) > 1]


def own_methods(trees):
    classes = [node for tree in trees for node in ast.walk(tree) if isinstance(node, ast.ClassDef)]
    return [part.name for each in classes for part in each.body if isinstance(part, ast.FunctionDef)]


def code_faults(tree, package, methods):
    if ast.get_docstring(tree) is not None:
        tree = ast.Module(body=tree.body[1:], type_ignores=[])
    faults = top_faults(tree.body)
    for node in ast.walk(tree):
        faults += [(getattr(node, "lineno", 0), fault) for fault in node_faults(node, package, methods)]
    return faults


def drawn_from(tree):
    return [node.module for node in ast.walk(tree) if isinstance(node, ast.ImportFrom)]


# What still draws from another one, when all that draw from none are taken away again and again, goes in a ring.
def in_rings(draws):
    left = dict(draws)
    while True:
        free = [name for name in left if not any(other in left for other in left[name])]
        if not free:
            return sorted(left)
        for name in free:
            del left[name]
