"""Finds breaches of some of the language's rules in the package's files; no fault found is no proof of none."""

import ast
import builtins
import re

NODES = """Module FunctionDef ClassDef Return Assign AugAssign For While If Raise Try Expr Pass Break Continue ImportFrom
alias BoolOp And Or BinOp Add Sub Mult FloorDiv Mod Pow LShift RShift BitOr BitXor BitAnd UnaryOp Invert Not USub UAdd
Lambda IfExp Dict Set List Tuple ListComp comprehension Compare Eq NotEq Lt LtE Gt GtE Is IsNot In NotIn Call keyword
JoinedStr FormattedValue Constant Attribute Subscript Slice Name Load Store arguments arg ExceptHandler""".split()
OWN_NAMES = """len range enumerate zip min max sum abs sorted reversed int str bool list tuple dict set frozenset isinstance
ord repr any all divmod Exception ValueError TypeError KeyError IndexError LookupError ZeroDivisionError ArithmeticError
OverflowError RuntimeError NotImplementedError AttributeError StopIteration""".split()
METHODS = """append clear copy count endswith extend find get index insert isalnum isalpha isdigit islower isspace isupper
items join keys ljust lower lstrip partition pop remove replace reverse rfind rjust rpartition rsplit rstrip setdefault
split splitlines startswith strip update upper values zfill bit_length""".split()
FIRST_IN = ("list", "tuple", "dict", "sorted", "sum", "any", "all", "enumerate", "zip")
KEY_NAMES = ("len", "int", "str", "abs", "sum", "min", "max", "tuple")
KEYWORDS = {"sorted": ("key", "reverse"), "min": ("key", "default"), "max": ("key", "default"), "sum": ("start",),
            "enumerate": ("start",), "zip": ("strict",)}
FREE_VALUES = "count index title find get join lower upper split strip copy add".split()
DUNDERS = ["__init__", "__eq__", "__repr__", "__str__", "__len__"]
UNUSED = """register mro elements open input version_info with_traceback add_note attrgetter breakpoint builtins compile
copyright credits delattr dir eval exec exit gc getattr globals hasattr help id importlib license locals methodcaller os
quit setattr super type vars sys format format_map""".split()
WORDS = re.compile(r"\b(type|typing|typing_extensions|enum|Enum|IntEnum|StrEnum|Flag|IntFlag|Generic|Protocol|ABC|ABCMeta"
                   r"|namedtuple|NamedTuple|TypedDict|TYPE_CHECKING|abstractmethod)\b|dataclass|overload|contextmanager")


def text_faults(text):
    rows = text.split("\n")
    faults = [(number, "L10 length") for number, row in enumerate(rows, 1) if len(row) > 120]
    faults += [(number, "L14 sign") for number, row in enumerate(rows, 1) if re.search(r"[^ -~]", row)]
    faults += [(number, "L17 word") for number, row in enumerate(rows, 1) if WORDS.search(row)]
    return faults + ([(len(rows), "L10 file")] if len(rows) > 401 else [])


def bound_names(node):
    if isinstance(node, (ast.FunctionDef, ast.ClassDef)):
        return [node.name]
    if isinstance(node, ast.arg):
        return [node.arg]
    if isinstance(node, ast.Name) and isinstance(node.ctx, ast.Store):
        return [node.id]
    if isinstance(node, ast.Attribute) and isinstance(node.ctx, ast.Store):
        return [node.attr]
    return []


def name_faults(node):
    faults = []
    for name in bound_names(node):
        if isinstance(node, ast.FunctionDef) and name in DUNDERS:
            continue
        if name.startswith("_"):
            faults.append("L12 name")
        if name in UNUSED:
            faults.append("L17 name")
        if hasattr(builtins, name) and not isinstance(node, ast.Attribute):
            faults.append("L15 a name of Python's own")
    if isinstance(node, ast.Name) and hasattr(builtins, node.id) and node.id not in OWN_NAMES:
        faults.append("L8 name")
    return faults


def function_faults(node):
    faults = ["L10 function"] if node.end_lineno - node.lineno >= 40 else []
    given = node.args
    if given.vararg or given.kwarg or given.kwonlyargs or given.posonlyargs:
        faults.append("L4 parameters")
    return faults + (["L4 decorator"] if node.decorator_list else [])


def class_faults(node):
    faults = ["L5 class"] if len(node.bases) > 1 or node.keywords or node.decorator_list else []
    if not all(isinstance(part, (ast.FunctionDef, ast.Pass)) for part in node.body):
        faults.append("L5 body")
    return faults


def compare_faults(node):
    sides = [node.left] + node.comparators
    if any(isinstance(sign, (ast.Is, ast.IsNot)) for sign in node.ops):
        if not any(isinstance(side, ast.Constant) and side.value in (None, True, False) for side in sides):
            return ["L20 is"]
    return []


def call_faults(node, methods):
    called = node.func
    if any(isinstance(given, ast.Starred) for given in node.args) or any(word.arg is None for word in node.keywords):
        return ["L7 star"]
    if isinstance(called, ast.Attribute) and called.attr not in METHODS + methods + DUNDERS:
        return ["L25 method"]
    return []


def value_faults(node):
    if isinstance(node, ast.Constant):
        if not (node.value is None or isinstance(node.value, (bool, int, str))):
            return ["L7 value"]
        return ["L27 text"] if isinstance(node.value, str) and "%" in node.value else []
    if isinstance(node, ast.ListComp) and (len(node.generators) > 1 or len(node.generators[0].ifs) > 1):
        return ["L7 comprehension"]
    if isinstance(node, ast.Assign) and len(node.targets) > 1:
        return ["L6 targets"]
    if isinstance(node, (ast.For, ast.While)) and node.orelse or isinstance(node, ast.Try) and node.finalbody:
        return ["L6 else or finally"]
    if isinstance(node, ast.BinOp) and isinstance(node.op, ast.Pow) and not isinstance(node.right, ast.Constant):
        return ["L27 power"]
    return []


def import_faults(node, package):
    inside = node.module is not None and node.module.startswith(package + ".") and node.level == 0
    plain = all(part.name != "*" and part.asname is None for part in node.names)
    return [] if plain and (inside or node.module == "__future__") else ["L2 import"]


def node_faults(node, package, methods):
    faults = [] if type(node).__name__ in NODES else ["L6 or L7 " + type(node).__name__]
    faults += name_faults(node) + value_faults(node)
    if isinstance(node, ast.FunctionDef):
        faults += function_faults(node)
    if isinstance(node, ast.ClassDef):
        faults += class_faults(node)
    if isinstance(node, ast.Compare):
        faults += compare_faults(node)
    if isinstance(node, ast.Call):
        faults += call_faults(node, methods)
    if isinstance(node, ast.ImportFrom):
        faults += import_faults(node, package)
    if isinstance(node, ast.Expr) and not isinstance(node.value, ast.Call):
        faults.append("L6 statement")
    return faults


def top_names(body):
    return [name for node in body for part in [node] + getattr(node, "targets", []) for name in bound_names(part)]


def top_faults(body):
    kinds = (ast.ImportFrom, ast.FunctionDef, ast.ClassDef, ast.Assign)
    names = top_names(body)
    faults = [(node.lineno, "L3 top") for node in body if not isinstance(node, kinds)]
    return faults + [(1, "L15 bound twice " + name) for name in set(names) if names.count(name) > 1]


# What is around each node, so that it can be asked where a call stands.
def around(tree):
    return {part: node for node in ast.walk(tree) for part in ast.iter_child_nodes(node)}


def called_name(node):
    return node.func.id if isinstance(node, ast.Call) and isinstance(node.func, ast.Name) else None


def is_walk(node):
    if called_name(node) in ("zip", "enumerate", "reversed", "range"):
        return True
    return (isinstance(node, ast.Call) and isinstance(node.func, ast.Attribute) and not node.args
            and node.func.attr in ("items", "keys", "values"))


def is_walked_at_once(node, outer):
    if isinstance(outer, (ast.For, ast.comprehension)):
        return node is outer.iter
    if not isinstance(outer, ast.Call) or node not in outer.args:
        return False
    if isinstance(outer.func, ast.Attribute):
        return outer.func.attr == "join" and isinstance(outer.func.value, ast.Constant)
    if called_name(outer) in ("min", "max"):
        return len(outer.args) == 1
    return called_name(outer) == "zip" or outer.args[0] is node and called_name(outer) in FIRST_IN


def is_set_in_its_place(node, outer):
    if isinstance(outer, ast.BinOp):
        return isinstance(outer.op, (ast.Sub, ast.BitAnd, ast.BitOr, ast.BitXor))
    if isinstance(outer, ast.Compare):
        return isinstance(outer.ops[0], (ast.In, ast.NotIn, ast.Eq, ast.NotEq))
    return called_name(outer) in ("sorted", "len") and not outer.keywords


def is_own_in_its_place(node, outer):
    if isinstance(outer, ast.Call):
        return outer.func is node or called_name(outer) == "isinstance"
    if isinstance(outer, ast.keyword):
        return outer.arg == "key" and node.id in KEY_NAMES
    return isinstance(outer, (ast.Tuple, ast.ClassDef, ast.ExceptHandler))


def place_faults(node, outer):
    if is_walk(node) and not is_walked_at_once(node, outer):
        return ["L23 kept walk"]
    if (isinstance(node, ast.Set) or called_name(node) in ("set", "frozenset")) and not is_set_in_its_place(node, outer):
        return ["L24 set"]
    if isinstance(node, ast.Name) and node.id in OWN_NAMES and not is_own_in_its_place(node, outer):
        return ["L22 kept as a value"]
    if isinstance(node, ast.Attribute) and node.attr in METHODS and isinstance(node.ctx, ast.Load):
        called = isinstance(outer, ast.Call) and outer.func is node
        return [] if called or isinstance(outer, ast.keyword) else ["L25 method handed on"]
    return []


def keyword_faults(node):
    name = called_name(node)
    if name in OWN_NAMES and not all(word.arg in KEYWORDS.get(name, ()) for word in node.keywords):
        return ["L22 keyword"]
    if isinstance(node.func, ast.Attribute) and node.func.attr in METHODS and node.keywords:
        return ["L22 keyword"]
    return []


def annotation_faults(node):
    if isinstance(node, ast.FunctionDef) and node.returns or isinstance(node, ast.arg) and node.annotation:
        return ["L21 annotation"]
    return []


def raise_faults(node):
    if isinstance(node, ast.Raise) and not isinstance(node.exc, ast.Call):
        return ["L19 raise"]
    if isinstance(node, ast.ExceptHandler):
        names = [part.id for part in ast.walk(node.type) if isinstance(part, ast.Name)] if node.type else ["none"]
        return ["L19 except"] if set(names) & {"none", "Exception", "TypeError"} else []
    return []


def kept_at_the_top(tree):
    """The lists and dicts of a file's top, by their names."""
    return {target.id: node.value for node in tree.body if isinstance(node, ast.Assign)
            for target in node.targets if isinstance(target, ast.Name) and isinstance(node.value, (ast.List, ast.Dict))}


def is_read_alone(node, outer):
    if isinstance(outer, ast.Subscript):
        return outer.value is node and isinstance(outer.ctx, ast.Load)
    if isinstance(outer, ast.Attribute):
        return outer.attr in ("get", "items", "keys", "values", "index", "count", "copy")
    if isinstance(outer, ast.Call):
        return called_name(outer) in FIRST_IN + ("len", "min", "max", "reversed")
    return isinstance(outer, (ast.For, ast.comprehension)) or (
        isinstance(outer, ast.Compare) and isinstance(outer.ops[0], (ast.In, ast.NotIn, ast.Eq, ast.NotEq)))


def kept_faults(tree):
    kept = kept_at_the_top(tree)
    faults = [(value.lineno, "L15 a list or dict within one") for value in kept.values()
              for part in ast.walk(value) if part is not value and isinstance(part, (ast.List, ast.Dict))]
    return faults + [(node.lineno, "L15 not read alone") for node, outer in around(tree).items()
                     if isinstance(node, ast.Name) and isinstance(node.ctx, ast.Load) and node.id in kept
                     and not is_read_alone(node, outer)]


def local_faults(tree):
    taken = [part.name for node in tree.body if isinstance(node, ast.ImportFrom) for part in node.names]
    taken += [node.name for node in tree.body if isinstance(node, ast.ClassDef)]
    locals_of = [node for each in ast.walk(tree) if isinstance(each, (ast.FunctionDef, ast.Lambda))
                 for node in ast.walk(each) if isinstance(node, (ast.arg, ast.Name))]
    return [(node.lineno, "L15 local like a class or an import") for node in locals_of
            if set(bound_names(node)) & set(taken)]


def method_faults(node):
    names = [part.name for part in node.body if isinstance(part, ast.FunctionDef)]
    faults = ["L18 method twice"] if len(set(names)) < len(names) else []
    for part in node.body:
        if isinstance(part, ast.FunctionDef) and part.name == "__init__":
            faults += ["L28 return" for inner in ast.walk(part) if isinstance(inner, ast.Return)]
    return faults


def lambda_faults(tree):
    seen = [(node.lineno, ast.dump(node.args)) for node in ast.walk(tree) if isinstance(node, ast.Lambda)]
    return [(line, "L13 lambdas") for line, given in set(seen) if seen.count((line, given)) > 1]


def placed_faults(tree):
    faults = local_faults(tree) + lambda_faults(tree) + kept_faults(tree)
    for node, outer in around(tree).items():
        found = place_faults(node, outer) + annotation_faults(node) + raise_faults(node)
        found += keyword_faults(node) if isinstance(node, ast.Call) else []
        found += method_faults(node) if isinstance(node, ast.ClassDef) else []
        faults += [(getattr(node, "lineno", 0), fault) for fault in found]
    return faults


def own_values(trees):
    return [node.attr for tree in trees for node in ast.walk(tree)
            if isinstance(node, ast.Attribute) and isinstance(node.ctx, ast.Store)]


# Names that Python's own values have, as L26 tells them.
def builtin_parts():
    return {name for kind in (str, int, list, dict, set, bytes) for name in dir(kind)}


# Names that are methods or values of classes, over the whole package.
def member_faults(trees):
    methods = [name for name in own_methods(trees) if name not in DUNDERS]
    values = own_values(trees)
    faults = ["L18 method and value " + name for name in set(methods) & set(values)]
    faults += ["L26 method " + name for name in set(methods) & builtin_parts() - {"add", "discard"} - set(METHODS)]
    return faults + ["L26 value " + name for name in set(values) & builtin_parts() - set(FREE_VALUES)]


# Names that are not drawn from the very file that defines them.
def drawn_faults(trees, package):
    faults = []
    for name, tree in trees.items():
        for node in ast.walk(tree):
            if isinstance(node, ast.ImportFrom) and node.module != "__future__":
                defined = top_names(trees[node.module[len(package) + 1:]].body)
                faults += [(name, part.name) for part in node.names if part.name not in defined]
    return faults


def own_methods(trees):
    classes = [node for tree in trees for node in ast.walk(tree) if isinstance(node, ast.ClassDef)]
    return [part.name for each in classes for part in each.body if isinstance(part, ast.FunctionDef)]


def code_faults(tree, package, methods):
    if ast.get_docstring(tree) is not None:
        tree = ast.Module(body=tree.body[1:], type_ignores=[])
    faults = top_faults(tree.body)
    for node in ast.walk(tree):
        faults += [(getattr(node, "lineno", 0), fault) for fault in node_faults(node, package, methods)]
    return faults + placed_faults(tree)


def drawn_from(tree):
    return [node.module for node in ast.walk(tree) if isinstance(node, ast.ImportFrom)]


# What still draws from another one, when all that draw from none are taken away again and again, goes in a ring.
def in_rings(draws):
    left = dict(draws)
    while True:
        free = [name for name in left if not any(other in left for other in left[name])]
        if not free:
            return sorted(left)
        for name in free:
            del left[name]
