"""Finds where a file of the package leaves the part of Python that the program keeps to."""

import ast
import builtins
import re

ERRORS = set("""Exception ValueError TypeError KeyError IndexError LookupError ZeroDivisionError ArithmeticError
OverflowError RuntimeError NotImplementedError AttributeError StopIteration""".split())
OWN_NAMES = ERRORS | set("""len range enumerate zip min max sum abs sorted reversed int str bool list tuple dict set
frozenset isinstance ord repr any all divmod""".split())
METHODS = set("""append clear copy count endswith extend find get index insert isalnum isalpha isdigit islower isspace
isupper items join keys ljust lower lstrip partition pop remove replace reverse rfind rjust rpartition rsplit rstrip
setdefault split splitlines startswith strip update upper values zfill bit_length""".split())
PYTHON_METHODS = {name for kind in (str, int, list, dict, set, tuple, bytes) for name in dir(kind)}
UNDERSCORED = set("__init__ __eq__ __repr__ __str__ __len__ __all__ __version__".split())
UNUSED = set("""register mro elements open input version_info with_traceback add_note format format_map attrgetter
breakpoint builtins compile copyright credits delattr dir eval exec exit gc getattr globals hasattr help id importlib
license locals methodcaller os quit setattr super type vars chr print""".split())
WORDS = set("""type typing typing_extensions enum Enum IntEnum StrEnum Flag IntFlag Generic Protocol ABC ABCMeta
namedtuple NamedTuple TypedDict TYPE_CHECKING abstractmethod""".split())
WALKED = set("zip enumerate reversed range".split())
WALKERS = set("list tuple dict sorted sum any all enumerate zip min max".split())
FILE_NAMES = set("test tests testing site conftest sitecustomize usercustomize".split()) | WORDS | set(dir(builtins))

STATEMENTS = (ast.Assign, ast.AugAssign, ast.If, ast.While, ast.For, ast.Return, ast.Break, ast.Continue, ast.Pass,
              ast.Raise, ast.Try, ast.Expr, ast.FunctionDef, ast.ClassDef, ast.ImportFrom)
EXPRESSIONS = (ast.Constant, ast.List, ast.Tuple, ast.Dict, ast.Set, ast.BinOp, ast.UnaryOp, ast.BoolOp, ast.Compare,
               ast.IfExp, ast.Call, ast.Attribute, ast.Subscript, ast.Slice, ast.ListComp, ast.JoinedStr,
               ast.FormattedValue, ast.Name, ast.Lambda)


def parents(tree):
    return {child: node for node in ast.walk(tree) for child in ast.iter_child_nodes(node)}


def faults(name, text):
    """A list of (rule, row) for the file of this name, with this text."""
    found = text_faults(name, text)
    tree = ast.parse(text)
    above = parents(tree)
    found.extend(top_faults(tree))
    for node in ast.walk(tree):
        for rule in node_faults(node, above):
            found.append((rule, getattr(node, "lineno", 0)))
    return found


def text_faults(name, text):
    found = []
    stem = name[:-3]
    if not re.fullmatch(r"[a-z0-9_]+\.py", name) or stem in FILE_NAMES or stem.startswith("test_"):
        found.append(("L14", 0))
    rows = text.split("\n")
    if len(rows) > 401:
        found.append(("L10", 401))
    for number, row in enumerate(rows, 1):
        if len(row) > 120:
            found.append(("L10", number))
        if any(sign < " " or sign > "~" for sign in row):
            found.append(("L14", number))
        if set(re.findall(r"\w+", row)) & WORDS or re.search("dataclass|overload|contextmanager", row):
            found.append(("L17", number))
    return found


def is_docstring(node):
    return isinstance(node, ast.Expr) and isinstance(node.value, ast.Constant) and isinstance(node.value.value, str)


def is_plain(node, defs):
    if isinstance(node, (ast.List, ast.Tuple)):
        return all(is_plain(part, defs) for part in node.elts)
    if isinstance(node, ast.Dict):
        return all(is_plain(part, defs) for part in node.keys + node.values)
    if isinstance(node, ast.Name):
        return node.id in defs
    return isinstance(node, ast.Constant)


def top_faults(tree):
    found = []
    names = []
    for place, node in enumerate(tree.body):
        if isinstance(node, (ast.FunctionDef, ast.ClassDef)):
            names.append(node.name)
        elif isinstance(node, ast.ImportFrom):
            names.extend(part.asname or part.name for part in node.names)
        elif isinstance(node, ast.Assign) and isinstance(node.targets[0], ast.Name) and is_plain(node.value, names):
            names.append(node.targets[0].id)
            if isinstance(node.value, (ast.List, ast.Dict)):
                inner = [part for part in ast.walk(node.value) if isinstance(part, (ast.List, ast.Dict))]
                found.extend(("L15", node.lineno) for _ in inner[1:])
        elif not (place == 0 and is_docstring(node)):
            found.append(("L3", node.lineno))
    found.extend(("L15", 0) for name in set(names) if names.count(name) > 1)
    found.extend(local_faults(tree, set(names)))
    return found


def local_faults(tree, names):
    # Functions of the file may be called from anywhere in it, but no local may hide a class, an import or Python's own.
    hidden = {part.asname or part.name for node in tree.body if isinstance(node, ast.ImportFrom) for part in node.names}
    hidden |= {node.name for node in tree.body if isinstance(node, ast.ClassDef)} | set(dir(builtins))
    found = []
    for node in ast.walk(tree):
        given = None
        if isinstance(node, ast.arg):
            given = node.arg
        elif isinstance(node, ast.Name) and isinstance(node.ctx, ast.Store):
            given = node.id
        if given in hidden:
            found.append(("L15", node.lineno))
        if isinstance(node, ast.Name) and isinstance(node.ctx, ast.Load) and node.id in dir(builtins):
            if node.id not in OWN_NAMES and node.id not in names:
                found.append(("L8", node.lineno))
    return found


def node_faults(node, above):
    found = []
    if isinstance(node, ast.stmt) and not isinstance(node, STATEMENTS):
        found.append("L6")
    if isinstance(node, ast.expr) and not isinstance(node, EXPRESSIONS):
        found.append("L7")
    found.extend(name_faults(node))
    for kind, ask in ASKED.items():
        if isinstance(node, kind):
            found.extend(ask(node, above))
    return found


def name_faults(node):
    names = []
    for field in ("id", "attr", "arg", "name", "asname"):
        name = getattr(node, field, None)
        if isinstance(name, str):
            names.append(name)
    found = ["L17" for name in names if name in UNUSED]
    found.extend("L12" for name in names if name.startswith("_") and name not in UNDERSCORED)
    found.extend("L12" for name in names if not name.isascii())
    return found


def import_faults(node, above):
    rules = [] if isinstance(above[node], ast.Module) else ["L2"]
    if node.level != 0 or not (node.module or "").startswith("wholeglance."):
        rules.append("L2")
    if any(part.name == "*" for part in node.names):
        rules.append("L2")
    return rules


def def_faults(node, above):
    rules = []
    given = node.args
    if given.vararg or given.kwarg or given.kwonlyargs or given.posonlyargs or node.decorator_list:
        rules.append("L4")
    if any(not is_plain(value, []) or isinstance(value, (ast.List, ast.Dict)) for value in given.defaults):
        rules.append("L4")
    if node.end_lineno - node.lineno + 1 > 40:
        rules.append("L10")
    return rules


def class_faults(node, above):
    rules = [] if isinstance(above[node], ast.Module) else ["L15"]
    if node.decorator_list or node.keywords or len(node.bases) > 1:
        rules.append("L5")
    if not all(isinstance(part, (ast.FunctionDef, ast.Pass)) for part in node.body):
        rules.append("L5")
    return rules


def expr_faults(node, above):
    if isinstance(node.value, ast.Call) or (is_docstring(node) and isinstance(above[node], ast.Module)):
        return []
    return ["L6"]


def assign_faults(node, above):
    return ["L6"] if len(node.targets) != 1 else []


def loop_faults(node, above):
    return ["L6"] if node.orelse else []


def try_faults(node, above):
    rules = ["L6"] if node.finalbody else []
    for handler in node.handlers:
        names = [part.id for part in ast.walk(handler.type) if isinstance(part, ast.Name)] if handler.type else []
        if not names or "Exception" in names or "TypeError" in names:
            rules.append("L19")
    return rules


def raise_faults(node, above):
    return [] if isinstance(node.exc, ast.Call) else ["L19"]


def constant_faults(node, above):
    if isinstance(node.value, (float, complex, bytes)) or node.value is ...:
        return ["L7"]
    return ["L27"] if isinstance(node.value, str) and "%" in node.value else []


def binary_faults(node, above):
    if isinstance(node.op, (ast.Div, ast.MatMult)):
        return ["L7"]
    if isinstance(node.op, ast.Pow):
        exponent = node.right
        if not isinstance(exponent, ast.Constant) or exponent.value not in range(65):
            return ["L27"]
    return []


def compare_faults(node, above):
    sides = [node.left] + node.comparators
    rules = []
    for place, sign in enumerate(node.ops):
        beside = sides[place:place + 2]
        if isinstance(sign, (ast.Is, ast.IsNot)):
            if not any(isinstance(side, ast.Constant) and side.value in (None, True, False) for side in beside):
                rules.append("L20")
    return rules


def comprehension_faults(node, above):
    return ["L7"] if len(node.generators) != 1 or len(node.generators[0].ifs) > 1 else []


def attribute_faults(node, above):
    called = isinstance(above[node], ast.Call) and above[node].func is node
    if node.attr in UNDERSCORED:
        return [] if called and isinstance(node.value, ast.Name) else ["L28"]
    if called and node.attr in PYTHON_METHODS and node.attr not in METHODS | {"add", "discard"}:
        return ["L25"]
    if not called and node.attr in METHODS:
        return ["L25"]
    return []


def call_faults(node, above):
    rules = []
    name = node.func.id if isinstance(node.func, ast.Name) else None
    if any(isinstance(part, ast.Starred) for part in node.args) or any(part.arg is None for part in node.keywords):
        rules.append("L7")
    allowed = {"sorted": {"key", "reverse"}, "min": {"key", "default"}, "max": {"key", "default"},
               "sum": {"start"}, "enumerate": {"start"}, "zip": {"strict"}}
    if name in OWN_NAMES and {part.arg for part in node.keywords} - allowed.get(name, set()):
        rules.append("L22")
    if name in WALKED or (isinstance(node.func, ast.Attribute) and node.func.attr in ("items", "keys", "values")):
        rules.extend(walked_faults(node, above[node]))
    if name in ("set", "frozenset"):
        rules.extend(set_faults(node, above[node]))
    return rules


def walked_faults(node, around):
    if isinstance(around, (ast.For, ast.comprehension)) and around.iter is node:
        return []
    if isinstance(around, ast.Call):
        if isinstance(around.func, ast.Name) and around.func.id in WALKERS and node in around.args:
            return []
        if isinstance(around.func, ast.Attribute) and around.func.attr == "join":
            return []
    return ["L23"]


def set_faults(node, around):
    if isinstance(around, (ast.Compare, ast.BinOp)):
        return []
    if isinstance(around, ast.Call) and isinstance(around.func, ast.Name) and around.func.id in ("sorted", "len"):
        return []
    return ["L24"]


def name_use_faults(node, above):
    # Python's own functions are called, not kept.
    around = above[node]
    if node.id not in OWN_NAMES - ERRORS or (isinstance(around, ast.Call) and around.func is node):
        return []
    if isinstance(around, ast.keyword) and around.arg == "key":
        return []
    call = above[around] if isinstance(around, ast.Tuple) else around
    if isinstance(call, ast.Call) and isinstance(call.func, ast.Name) and call.func.id == "isinstance":
        return []
    return ["L22"]


def annotation_faults(node, above):
    return ["L21"] if node.annotation is not None else []


def fstring_faults(node, above):
    return [] if isinstance(node.value, ast.Name) and node.format_spec is None else ["L7"]


ASKED = {
    ast.ImportFrom: import_faults, ast.FunctionDef: def_faults, ast.ClassDef: class_faults, ast.Expr: expr_faults,
    ast.Assign: assign_faults, ast.For: loop_faults, ast.While: loop_faults, ast.Try: try_faults,
    ast.Raise: raise_faults, ast.Constant: constant_faults, ast.BinOp: binary_faults, ast.Compare: compare_faults,
    ast.ListComp: comprehension_faults, ast.Attribute: attribute_faults, ast.Call: call_faults,
    ast.Name: name_use_faults, ast.arg: annotation_faults, ast.FormattedValue: fstring_faults,
}


def drawn_from(text):
    return [node.module.split(".")[-1] for node in ast.parse(text).body if isinstance(node, ast.ImportFrom)]


def goes_round(drawn):
    """Whether some file draws from itself, in whatever many steps."""
    reached = {name: set(others) for name, others in drawn.items()}
    for _ in drawn:
        for name in reached:
            for other in list(reached[name]):
                reached[name] |= reached.get(other, set())
    return any(name in others for name, others in reached.items())
