"""The rules of the language that can be read off a file.

faults(name, source, own) tells what breaks them; own are the methods of the package's own classes.
"""

import ast
import builtins
import re

PACKAGE = "fourway"

CALLED = set("""len range enumerate zip min max sum abs sorted reversed int str bool list tuple dict set frozenset
isinstance ord repr any all divmod Exception ValueError TypeError KeyError IndexError LookupError ZeroDivisionError
ArithmeticError OverflowError RuntimeError NotImplementedError AttributeError StopIteration""".split())

METHODS = set("""append clear copy count endswith extend find get index insert isalnum isalpha isdigit islower isspace
isupper items join keys ljust lower lstrip partition pop remove replace reverse rfind rjust rpartition rsplit rstrip
setdefault split splitlines startswith strip update upper values zfill bit_length""".split())

TWO_UNDERSCORES = {"__init__", "__eq__", "__repr__", "__str__", "__len__"}

NOT_NAMES = set("""register mro elements open input version_info with_traceback add_note attrgetter breakpoint builtins
compile copyright credits delattr dir eval exec exit gc getattr globals hasattr help id importlib license locals
methodcaller os quit setattr super vars sys""".split())

NOT_WORDS = set("""type typing typing_extensions enum Enum IntEnum StrEnum Flag IntFlag Generic Protocol ABC ABCMeta
namedtuple NamedTuple TypedDict TYPE_CHECKING abstractmethod""".split())

NODES = set("""Module FunctionDef ClassDef Assign AugAssign If While For Return Break Continue Pass Raise Try
ExceptHandler Expr ImportFrom alias arguments arg keyword Lambda BinOp UnaryOp BoolOp Compare IfExp Call Attribute
Subscript Slice Name Constant List Tuple Dict Set ListComp comprehension JoinedStr FormattedValue Load Store
Add Sub Mult FloorDiv Mod Pow BitAnd BitOr BitXor LShift RShift Invert UAdd USub Not And Or Eq NotEq Lt LtE Gt GtE
Is IsNot In NotIn""".split())


def faults(name, source, own=()):
    found = sign_faults(source) + word_faults(source)
    tree = ast.parse(source)
    for node in ast.walk(tree):
        for fault in node_faults(node, own):
            found.append(f"{name}:{getattr(node, 'lineno', 0)}: {fault}")
    return found + top_faults(tree) + walked_faults(tree) + set_faults(tree) + keyword_faults(tree) + local_faults(tree)


def sign_faults(source):
    found = []
    rows = source.split("\n")
    if len(rows) > 400:
        found.append("L10 rows")
    for number, row in enumerate(rows, start=1):
        if len(row) > 120:
            found.append(f"{number}: L10 length")
        if not re.fullmatch("[ -~]*", row):
            found.append(f"{number}: L14 signs")
    return found


def word_faults(source):
    words = set(re.findall("[A-Za-z0-9_]+", source))
    found = [f"L17 {word}" for word in sorted(words & NOT_WORDS)]
    return found + [f"L17 {part}" for part in ("dataclass", "overload", "contextmanager") if part in source.lower()]


def own_methods(source):
    classes = [node for node in ast.parse(source).body if isinstance(node, ast.ClassDef)]
    return {part.name for node in classes for part in node.body if isinstance(part, ast.FunctionDef)}


def node_faults(node, own):
    kind = node.__class__.__name__
    if kind not in NODES:
        return [f"L6, L7 {kind}"]
    checks = {
        "FunctionDef": function_faults, "ClassDef": class_faults, "Assign": assign_faults, "For": loop_faults,
        "While": loop_faults, "Try": try_faults, "Expr": expression_faults, "ImportFrom": import_faults,
        "BinOp": power_faults, "Compare": is_faults, "Name": name_faults, "arg": name_faults,
        "Constant": constant_faults, "ListComp": comprehension_faults, "FormattedValue": braces_faults,
    }
    if kind == "Call":
        return call_faults(node, own)
    return checks[kind](node) if kind in checks else []


def function_faults(node):
    found = name_faults(node)
    if node.decorator_list or node.args.vararg or node.args.kwarg or node.args.kwonlyargs or node.args.posonlyargs:
        found.append("L4")
    if node.end_lineno - node.lineno >= 40:
        found.append("L10 function")
    return found


def class_faults(node):
    found = name_faults(node)
    if node.decorator_list or node.keywords or len(node.bases) > 1:
        found.append("L5")
    if [part for part in node.body if not isinstance(part, (ast.FunctionDef, ast.Pass))]:
        found.append("L5 body")
    return found


def assign_faults(node):
    return [] if len(node.targets) == 1 and not isinstance(node.targets[0], ast.Tuple) else ["L6 targets"]


def loop_faults(node):
    return ["L6 else"] if node.orelse else []


def try_faults(node):
    unnamed = [handler for handler in node.handlers if handler.type is None]
    return ["L6 try"] if node.finalbody or unnamed else []


def expression_faults(node):
    # Whether a text by itself is a module's docstring is looked at in top_faults.
    return [] if isinstance(node.value, (ast.Call, ast.Constant)) else ["L6 expression"]


def import_faults(node):
    plain = node.level == 0 and node.module.startswith(PACKAGE + ".")
    return [] if plain and "*" not in [part.name for part in node.names] else ["L2, L16"]


def power_faults(node):
    if isinstance(node.op, ast.Pow) and not (isinstance(node.right, ast.Constant) and 0 <= node.right.value <= 64):
        return ["L27 power"]
    return []


def is_faults(node):
    sides = zip(node.ops, node.comparators)
    asked = [side for op, side in sides if isinstance(op, (ast.Is, ast.IsNot))]
    return [] if all(isinstance(side, ast.Constant) for side in asked) else ["L20"]


def name_faults(node):
    name = getattr(node, "name", None) or getattr(node, "arg", None) or node.id
    found = []
    if name in NOT_NAMES:
        found.append(f"L17 {name}")
    if name.startswith("_") and name not in TWO_UNDERSCORES:
        found.append(f"L12 {name}")
    read = isinstance(node, ast.Name) and isinstance(node.ctx, ast.Load)
    if name in vars(builtins) and not (read and name in CALLED):
        found.append(f"L8, L15 {name}")
    return found


def constant_faults(node):
    if isinstance(node.value, (float, complex, bytes)) or node.value is ...:
        return ["L7 value"]
    return ["L27 sign"] if isinstance(node.value, str) and "%" in node.value else []


def comprehension_faults(node):
    return [] if len(node.generators) == 1 and len(node.generators[0].ifs) <= 1 else ["L7 comprehension"]


def braces_faults(node):
    return [] if isinstance(node.value, ast.Name) and node.format_spec is None else ["L7 f-string"]


def call_faults(node, own):
    if isinstance(node.func, ast.Attribute) and node.func.attr not in METHODS | TWO_UNDERSCORES | set(own):
        return [f"L25 {node.func.attr}"]
    return []


def top_faults(tree):
    found = []
    bound = []
    for at, part in enumerate(tree.body):
        if isinstance(part, ast.Expr) and not (at == 0 and isinstance(part.value, ast.Constant)):
            found.append(f"{part.lineno}: L3")
        if not isinstance(part, (ast.Expr, ast.ImportFrom, ast.FunctionDef, ast.ClassDef, ast.Assign)):
            found.append(f"{part.lineno}: L3")
        bound.extend(names_bound(part))
    for node in ast.walk(tree):
        if isinstance(node, ast.Expr) and isinstance(node.value, ast.Constant) and node not in tree.body:
            found.append(f"{node.lineno}: L6 text by itself")
    return found + [f"L15 {name} twice" for name in sorted(set(bound)) if bound.count(name) > 1]


def names_bound(part):
    if isinstance(part, ast.ImportFrom):
        return [alias.asname or alias.name for alias in part.names]
    if isinstance(part, ast.Assign):
        return [part.targets[0].id]
    return [part.name] if isinstance(part, (ast.FunctionDef, ast.ClassDef)) else []


def parents(tree):
    return {child: node for node in ast.walk(tree) for child in ast.iter_child_nodes(node)}


def called_name(node):
    """The name of Python's own, or of a method, by which a node is a call."""
    if not isinstance(node, ast.Call):
        return None
    return node.func.id if isinstance(node.func, ast.Name) else node.func.attr


def walked_faults(tree):
    above = parents(tree)
    found = []
    for node in ast.walk(tree):
        if called_name(node) in {"zip", "enumerate", "reversed", "range", "items", "keys", "values"}:
            if not is_walked(node, above[node]):
                found.append(f"{node.lineno}: L23")
    return found


def is_walked(node, holder):
    if isinstance(holder, (ast.For, ast.comprehension)):
        return holder.iter is node
    name = called_name(holder)
    if name in {"min", "max"}:
        return holder.args == [node] and not holder.keywords
    if name == "join":
        return isinstance(holder.func.value, ast.Constant)
    first = {"list", "tuple", "dict", "sorted", "sum", "any", "all", "enumerate", "zip"}
    return name in first and holder.args[0] is node


def set_faults(tree):
    above = parents(tree)
    found = []
    for node in ast.walk(tree):
        if called_name(node) in {"set", "frozenset"} or isinstance(node, ast.Set):
            holder = above[node]
            while isinstance(holder, ast.BinOp):
                holder = above[holder]
            plain = called_name(holder) in {"sorted", "len"} and not holder.keywords
            if not plain and not isinstance(holder, ast.Compare):
                found.append(f"{node.lineno}: L24")
    return found


KEYWORDS = {
    "sorted": {"key", "reverse"}, "min": {"key", "default"}, "max": {"key", "default"}, "sum": {"start"},
    "enumerate": {"start"}, "zip": {"strict"},
}


def keyword_faults(tree):
    found = []
    for node in ast.walk(tree):
        name = called_name(node)
        if name in CALLED | METHODS and {word.arg for word in node.keywords} - KEYWORDS.get(name, set()):
            found.append(f"{node.lineno}: L22")
    return found


def local_faults(tree):
    taken = [name for part in tree.body if isinstance(part, (ast.ImportFrom, ast.ClassDef)) for name in names_bound(part)]
    found = []
    for node in ast.walk(tree):
        stored = isinstance(node, ast.Name) and isinstance(node.ctx, ast.Store) and node.id in taken
        if stored or (isinstance(node, ast.arg) and node.arg in taken):
            found.append(f"{node.lineno}: L15 local")
    return found
