"""Tells where the package's files leave the rules of LANGUAGE.md that can be seen from their text.

Each fault is a text that begins with the rule's number.
"""

import ast
import builtins
import re

PACKAGE = "benchdeal"

FORBIDDEN_WORDS = (
    "type", "typing", "typing_extensions", "enum", "Enum", "IntEnum", "StrEnum", "Flag", "IntFlag", "Generic",
    "Protocol", "ABC", "ABCMeta", "namedtuple", "NamedTuple", "TypedDict", "TYPE_CHECKING", "abstractmethod",
)
FORBIDDEN_WITHIN_WORDS = ("dataclass", "overload", "contextmanager")
FORBIDDEN_FILES = ("test", "tests", "testing", "site", "conftest", "sitecustomize", "usercustomize")
FORBIDDEN_EVERYWHERE = ("register", "mro", "elements", "open", "input", "version_info", "with_traceback", "add_note")
FORBIDDEN_NAMES = (
    "attrgetter", "breakpoint", "builtins", "compile", "copyright", "credits", "delattr", "dir", "eval", "exec",
    "exit", "gc", "getattr", "globals", "hasattr", "help", "id", "importlib", "license", "locals", "methodcaller",
    "os", "quit", "setattr", "super", "type", "vars",
)
ERROR_NAMES = (
    "Exception", "ValueError", "TypeError", "KeyError", "IndexError", "LookupError", "ZeroDivisionError",
    "ArithmeticError", "OverflowError", "RuntimeError", "NotImplementedError", "AttributeError", "StopIteration",
)
# chr is out by L27.
BUILTIN_NAMES = ERROR_NAMES + (
    "len", "range", "enumerate", "zip", "min", "max", "sum", "abs", "sorted", "reversed", "int", "str", "bool",
    "list", "tuple", "dict", "set", "frozenset", "isinstance", "ord", "repr", "any", "all", "divmod",
)
METHODS = (
    "append clear copy count endswith extend find get index insert isalnum isalpha isdigit islower isspace isupper "
    "items join keys ljust lower lstrip partition pop remove replace reverse rfind rjust rpartition rsplit rstrip "
    "setdefault split splitlines startswith strip update upper values zfill bit_length"
).split()
CHANGING_METHODS = ("append", "clear", "extend", "insert", "pop", "remove", "reverse", "setdefault", "update")
WALKS = ("zip", "enumerate", "reversed", "range")
WALK_METHODS = ("items", "keys", "values")
WALKERS = ("list", "tuple", "dict", "sorted", "sum", "any", "all", "enumerate", "zip")
KEYWORDS = {
    "sorted": ("key", "reverse"), "min": ("key", "default"), "max": ("key", "default"), "sum": ("start",),
    "enumerate": ("start",), "zip": ("strict",),
}
KEYS = ("len", "int", "str", "abs", "sum", "min", "max", "tuple")
OWN_UNDERSCORED = ("__init__", "__eq__", "__repr__", "__str__", "__len__", "__all__", "__version__")

NODES = (
    ast.Module, ast.FunctionDef, ast.ClassDef, ast.Lambda, ast.arguments, ast.arg, ast.ImportFrom, ast.alias,
    ast.Assign, ast.AugAssign, ast.If, ast.While, ast.For, ast.Return, ast.Break, ast.Continue, ast.Pass, ast.Raise,
    ast.Try, ast.ExceptHandler, ast.Expr, ast.Call, ast.keyword, ast.Attribute, ast.Subscript, ast.Slice, ast.Name,
    ast.Constant, ast.List, ast.Tuple, ast.Dict, ast.Set, ast.ListComp, ast.comprehension, ast.BinOp, ast.UnaryOp,
    ast.BoolOp, ast.Compare, ast.IfExp, ast.JoinedStr, ast.FormattedValue, ast.expr_context, ast.operator,
    ast.unaryop, ast.boolop, ast.cmpop,
)


def name_faults(path):
    """Faults of a file's name, told by its path within the package."""
    faults = []
    for part in path.split("/"):
        stem = part[:-3] if part.endswith(".py") else part
        if stem in ("__init__", "__main__"):
            continue
        if not re.fullmatch(r"[a-z][a-z0-9_]*", stem):
            faults.append(f"L14 {path}: no plain name in lower case")
        if stem in FORBIDDEN_FILES or stem.startswith("test_"):
            faults.append(f"L14 {path}: a name that is not used")
        if stem in FORBIDDEN_WORDS + FORBIDDEN_WITHIN_WORDS or hasattr(builtins, stem):
            faults.append(f"L14 {path}: a name that is not used")
    if not path.endswith(".py"):
        faults.append(f"L1 {path}: no .py file")
    if path.endswith("/__main__.py"):
        faults.append(f"L14 {path}: not at the package's top")
    return faults


def text_faults(path, text):
    faults = []
    rows = text.split("\n")
    if len(text.splitlines()) > 400:
        faults.append(f"L10 {path}: more than 400 rows")
    for number, row in enumerate(rows, start=1):
        if len(row) > 120:
            faults.append(f"L10 {path}:{number}: more than 120 signs")
        if not re.fullmatch(r"[ -~]*", row):
            faults.append(f"L14 {path}:{number}: a sign outside blank to ~")
        words = re.findall(r"\w+", row)
        if [word for word in words if word in FORBIDDEN_WORDS]:
            faults.append(f"L17 {path}:{number}: a word that stands nowhere")
        if [word for word in FORBIDDEN_WITHIN_WORDS if word in row]:
            faults.append(f"L17 {path}:{number}: a word that stands nowhere")
    return faults


def import_fault(path, row):
    """The rule that an import leaves, or None."""
    if isinstance(row, ast.Import):
        plain_sys = [(alias.name, alias.asname) for alias in row.names] == [("sys", None)]
        return None if path == "__main__.py" and plain_sys else "L16"
    if row.module == "__future__":
        return None if [alias.name for alias in row.names] == ["annotations"] else "L2"
    if row.level or not row.module.startswith(PACKAGE + ".") or row.module.endswith("__main__"):
        return "L2"
    if [alias for alias in row.names if alias.name == "*"]:
        return "L2"
    return None


def import_faults(path, tree):
    faults = []
    for node in ast.walk(tree):
        if not isinstance(node, (ast.Import, ast.ImportFrom)):
            continue
        rule = import_fault(path, node)
        if node not in tree.body:
            rule = "L2"
        if rule:
            faults.append(f"{rule} {path}:{node.lineno}: an import that is not used")
    return faults


def is_plain(node):
    """Whether a value may stand at a file's top."""
    if isinstance(node, (ast.List, ast.Tuple)):
        return all(is_plain(part) for part in node.elts)
    if isinstance(node, ast.Dict):
        return all(key is not None and is_plain(key) for key in node.keys) and all(map(is_plain, node.values))
    if isinstance(node, ast.UnaryOp):
        return isinstance(node.op, ast.USub) and is_plain(node.operand)
    return isinstance(node, (ast.Constant, ast.Name))


def top_faults(path, tree):
    faults = []
    bound = []
    for place, node in enumerate(tree.body):
        allowed = isinstance(node, (ast.FunctionDef, ast.ClassDef, ast.Import, ast.ImportFrom))
        if isinstance(node, (ast.FunctionDef, ast.ClassDef)):
            bound.append(node.name)
        elif isinstance(node, (ast.Import, ast.ImportFrom)):
            bound += [alias.asname or alias.name for alias in node.names]
        elif isinstance(node, ast.Assign) and isinstance(node.targets[0], ast.Name):
            bound.append(node.targets[0].id)
            allowed = is_plain(node.value)
        elif isinstance(node, ast.Expr):
            allowed = place == 0 and isinstance(node.value, ast.Constant) and isinstance(node.value.value, str)
        elif isinstance(node, ast.If):
            allowed = path == "__main__.py" and ast.unparse(node.test) == "__name__ == '__main__'"
        if not allowed:
            faults.append(f"L3 {path}:{node.lineno}: not at a file's top")
    if len(set(bound)) < len(bound):
        faults.append(f"L15 {path}: a name is bound twice at the file's top")
    return faults


def spelled_names(node):
    """The names that a node itself spells out."""
    if isinstance(node, ast.Name):
        return [node.id]
    if isinstance(node, ast.Attribute):
        return [node.attr]
    if isinstance(node, ast.arg):
        return [node.arg]
    if isinstance(node, (ast.FunctionDef, ast.ClassDef)):
        return [node.name]
    if isinstance(node, ast.ExceptHandler) and node.name:
        return [node.name]
    if isinstance(node, ast.alias):
        return [node.asname] if node.asname else []
    return []


def spelling_faults(path, node):
    faults = []
    is_main = path == "__main__.py"
    for name in spelled_names(node):
        own = name in OWN_UNDERSCORED or (name == "__name__" and is_main)
        if name.startswith("_") and not own:
            faults.append(f"L12 {path}:{node.lineno}: {name}")
        if name in FORBIDDEN_EVERYWHERE or (name in FORBIDDEN_NAMES and not isinstance(node, ast.Attribute)):
            faults.append(f"L17 {path}:{node.lineno}: {name}")
    if isinstance(node, ast.Name) and isinstance(node.ctx, ast.Load) and hasattr(builtins, node.id):
        used = node.id in BUILTIN_NAMES or (is_main and node.id in ("print", "__name__"))
        if not used:
            faults.append(f"L8 {path}:{node.lineno}: {node.id}")
    return faults


def is_shadow(node):
    """Whether a node gives a name of Python's own another meaning."""
    binds = isinstance(node, (ast.arg, ast.FunctionDef, ast.ClassDef))
    binds = binds or (isinstance(node, ast.Name) and isinstance(node.ctx, ast.Store))
    return binds and any(hasattr(builtins, name) for name in spelled_names(node))


def function_rule(node):
    """The rule that a def or lambda leaves, or None."""
    given = node.args
    if given.vararg or given.kwarg or given.kwonlyargs or given.posonlyargs:
        return "L4"
    if isinstance(node, ast.Lambda):
        return None
    if node.decorator_list:
        return "L4"
    if node.returns or [one for one in given.args if one.annotation]:
        return "L21"
    return "L10" if node.end_lineno - node.lineno + 1 > 40 else None


def class_rule(node, tree):
    if node.decorator_list or node.keywords or len(node.bases) > 1:
        return "L5"
    if node not in tree.body:
        return "L15"
    docstring = ast.get_docstring(node) is not None
    body = node.body[1:] if docstring else node.body
    return None if all(isinstance(part, (ast.FunctionDef, ast.Pass)) for part in body) else "L5"


def is_singled(node):
    """Whether it is a written None, True or False."""
    return isinstance(node, ast.Constant) and isinstance(node.value, (bool, type(None)))


def expression_rule(node):
    """The rule that an expression leaves, or None."""
    if isinstance(node, ast.Constant) and not isinstance(node.value, (int, str, type(None))):
        return "L7"
    if isinstance(node, ast.Constant) and isinstance(node.value, str) and "%" in node.value:
        return "L27"
    if isinstance(node, (ast.BinOp, ast.AugAssign)) and isinstance(node.op, (ast.Div, ast.MatMult)):
        return "L7"
    if isinstance(node, ast.ListComp) and (len(node.generators) > 1 or len(node.generators[0].ifs) > 1):
        return "L7"
    if isinstance(node, ast.FormattedValue) and (not isinstance(node.value, ast.Name) or node.format_spec):
        return "L7"
    if isinstance(node, ast.Compare):
        sides = [node.left] + node.comparators
        for place, sign in enumerate(node.ops):
            beside = sides[place:place + 2]
            if isinstance(sign, (ast.Is, ast.IsNot)) and not any(map(is_singled, beside)):
                return "L20"
    return None


def statement_rule(node):
    """The rule that a statement leaves, or None."""
    if isinstance(node, ast.Assign) and len(node.targets) > 1:
        return "L6"
    if isinstance(node, (ast.For, ast.While)) and node.orelse:
        return "L6"
    if isinstance(node, ast.Try) and node.finalbody:
        return "L6"
    if isinstance(node, ast.ExceptHandler):
        if node.type is None or ast.unparse(node.type) in ("Exception", "TypeError"):
            return "L19"
    return None


def called_name(node):
    """The plain name that a node calls, or None."""
    return node.func.id if isinstance(node, ast.Call) and isinstance(node.func, ast.Name) else None


def called_method(node):
    """The method that a node calls, or None."""
    return node.func.attr if isinstance(node, ast.Call) and isinstance(node.func, ast.Attribute) else None


def parents_of(tree):
    return {child: node for node in ast.walk(tree) for child in ast.iter_child_nodes(node)}


def is_kept_class(node, parents):
    """Whether a class of Python's own stands elsewhere than by isinstance, except, raise or as a base."""
    parent = parents[node]
    if isinstance(parent, ast.Tuple):
        node, parent = parent, parents[parent]
    if isinstance(parent, (ast.ExceptHandler, ast.Raise, ast.ClassDef)):
        return False
    return not (called_name(parent) == "isinstance" and node in parent.args[1:])


def own_name_rule(node, parents):
    """L22: names of Python's own are called, not kept."""
    if not isinstance(node, ast.Name) or node.id not in BUILTIN_NAMES or not isinstance(node.ctx, ast.Load):
        return None
    parent = parents[node]
    if isinstance(parent, ast.Call) and parent.func is node:
        return None
    if isinstance(parent, ast.keyword) and parent.arg == "key" and node.id in KEYS:
        return None
    return "L22" if is_kept_class(node, parents) else None


def keyword_rule(node):
    """L22: the keywords that Python's own are called with."""
    if not isinstance(node, ast.Call):
        return None
    used = [keyword.arg for keyword in node.keywords]
    own = called_name(node) in BUILTIN_NAMES or called_method(node) in METHODS
    wrong = [word for word in used if own and word not in KEYWORDS.get(called_name(node), ())]
    for keyword in node.keywords:
        if own and keyword.arg in ("reverse", "strict") and ast.unparse(keyword.value) not in ("True", "False"):
            wrong.append(keyword.arg)
    return "L22" if wrong else None


def is_walk(node):
    return called_name(node) in WALKS or called_method(node) in WALK_METHODS


def is_walked_at_once(node, parent):
    if isinstance(parent, (ast.For, ast.comprehension)):
        return parent.iter is node
    if not isinstance(parent, ast.Call) or node not in parent.args[:1]:
        return False
    if called_name(parent) in ("min", "max"):
        return len(parent.args) == 1
    if called_method(parent) == "join":
        return isinstance(parent.func.value, ast.Constant)
    return called_name(parent) in WALKERS


def walked_names(node):
    """The names of what a loop walks, itself or through a walk."""
    if isinstance(node, ast.Name):
        return [node.id]
    if called_method(node) in WALK_METHODS:
        return walked_names(node.func.value)
    if called_name(node) in ("zip", "enumerate", "reversed"):
        return [name for part in node.args for name in walked_names(part)]
    return []


def changed_name(node):
    """The name whose value a node changes, or None."""
    place = None
    if isinstance(node, ast.Subscript) and isinstance(node.ctx, ast.Store):
        place = node.value
    elif isinstance(node, ast.AugAssign):
        place = node.target
    elif called_method(node) in CHANGING_METHODS:
        place = node.func.value
    return place.id if isinstance(place, ast.Name) else None


def walk_rule(node, parents):
    """L23: walks are walked at once, and a loop does not change what it walks."""
    if is_walk(node) and not is_walked_at_once(node, parents[node]):
        return "L23"
    if isinstance(node, ast.For):
        changed = [changed_name(part) for row in node.body for part in ast.walk(row)]
        if set(walked_names(node.iter)) & set(changed):
            return "L23"
    return None


def local_faults(path, tree):
    """L15: locals and parameters called like a class or an import of their file."""
    taken = [node.name for node in tree.body if isinstance(node, ast.ClassDef)]
    for node in tree.body:
        if isinstance(node, ast.ImportFrom):
            taken += [alias.asname or alias.name for alias in node.names]
    faults = []
    for function in [node for node in ast.walk(tree) if isinstance(node, (ast.FunctionDef, ast.Lambda))]:
        for node in ast.walk(function):
            binds = isinstance(node, ast.arg) or (isinstance(node, ast.Name) and isinstance(node.ctx, ast.Store))
            if binds and spelled_names(node)[0] in taken:
                faults.append(f"L15 {path}:{node.lineno}: {spelled_names(node)[0]}")
    return faults


def methods_of(tree):
    return [
        part
        for node in ast.walk(tree) if isinstance(node, ast.ClassDef)
        for part in node.body if isinstance(part, ast.FunctionDef)
    ]


def node_faults(path, tree, method_names):
    faults = []
    methods = methods_of(tree)
    parents = parents_of(tree)
    for node in ast.walk(tree):
        rules = [expression_rule(node), statement_rule(node), keyword_rule(node)]
        rules += [own_name_rule(node, parents), walk_rule(node, parents)]
        if not isinstance(node, NODES + (ast.Import,)):
            rules.append("L6/L7")
        if isinstance(node, (ast.FunctionDef, ast.Lambda)):
            rules.append(function_rule(node))
        if isinstance(node, ast.ClassDef):
            rules.append(class_rule(node, tree))
        if is_shadow(node) and node not in methods:
            rules.append("L15")
        if isinstance(node, ast.Call) and isinstance(node.func, ast.Attribute):
            if node.func.attr not in METHODS and node.func.attr not in method_names and path != "__main__.py":
                rules.append("L25")
        line = getattr(node, "lineno", 0)
        faults += [f"{rule} {path}:{line}" for rule in rules if rule]
        faults += spelling_faults(path, node)
    return faults


def drawn_from(path, tree, files):
    """The files that one draws from; an __init__.py above such a file is drawn from too."""
    drawn = []
    for node in ast.walk(tree):
        if isinstance(node, ast.ImportFrom) and (node.module or "").startswith(PACKAGE + "."):
            steps = node.module.split(".")[1:]
            drawn.append("/".join(steps) + ".py")
            drawn += ["/".join(steps[:depth] + ["__init__.py"]) for depth in range(len(steps))]
    return [one for one in drawn if one in files and one != path]


def in_rings(drawn):
    """Those that draw from themselves, in whatever many steps."""
    found = []
    for start in drawn:
        reached = []
        ahead = list(drawn[start])
        while ahead:
            one = ahead.pop()
            if one not in reached:
                reached.append(one)
                ahead += drawn.get(one, [])
        if start in reached:
            found.append(start)
    return found


def ring_faults(drawn):
    return [f"L16 {path}: draws from itself, in whatever many steps" for path in in_rings(drawn)]


def folder_faults(files):
    folders = {"/".join(path.split("/")[:-1]) for path in files} | {""}
    return [
        f"L14 {folder or PACKAGE}: no __init__.py"
        for folder in sorted(folders)
        if (folder + "/__init__.py").lstrip("/") not in files
    ]


def faults_of(files):
    """All faults of a package, told as a dict of its files' texts by their paths within it."""
    faults = folder_faults(files)
    for path, text in files.items():
        faults += name_faults(path) + text_faults(path, text)
    trees = {path: ast.parse(text) for path, text in files.items() if path.endswith(".py")}
    method_names = [method.name for tree in trees.values() for method in methods_of(tree)]
    for path, tree in trees.items():
        faults += import_faults(path, tree) + top_faults(path, tree) + node_faults(path, tree, method_names)
        faults += local_faults(path, tree)
    return faults + ring_faults({path: drawn_from(path, tree, files) for path, tree in trees.items()})


# What the package does without; the rules behind it then hold of themselves.
DONE_WITHOUT = (
    ("L5 L18 L26 L28", (ast.ClassDef,)),
    ("L13", (ast.Lambda,)),
    ("L7 L11 L13 L24", (ast.Set,)),
    ("L19", (ast.Try, ast.Raise)),
)


def is_kept_at_top(node):
    """Whether it gives a name of a file's top a list or dict."""
    return isinstance(node, ast.Assign) and any(isinstance(part, (ast.List, ast.Dict)) for part in ast.walk(node.value))


def calls_of(trees):
    """The names that each function of a package calls."""
    functions = [node for tree in trees for node in ast.walk(tree) if isinstance(node, ast.FunctionDef)]
    return {function.name: [called_name(node) for node in ast.walk(function)] for function in functions}


def needless_of(files):
    """What a package holds that it could do without: the rules of it are not looked at one by one."""
    trees = {path: ast.parse(text) for path, text in files.items()}
    told = [f"L11: {name} calls itself, in whatever many steps" for name in in_rings(calls_of(trees.values()))]
    for path, tree in trees.items():
        told += [f"L15 {path}:{node.lineno}: a list or dict is kept" for node in tree.body if is_kept_at_top(node)]
        for node in ast.walk(tree):
            if called_name(node) in ("set", "frozenset"):
                told.append(f"L24 {path}:{node.lineno}")
            if isinstance(node, ast.FunctionDef) and node not in tree.body:
                told.append(f"L4 {path}:{node.lineno}: a def within a def or a class")
            told += [f"{rules} {path}:{node.lineno}" for rules, kinds in DONE_WITHOUT if isinstance(node, kinds)]
    return told
