"""Finds what lies outside the rules of LANGUAGE.md, as far as the form of the code shows it."""

import ast
import builtins
import re

OWN_NAMES = set(
    "len range enumerate zip min max sum abs sorted reversed int str bool list tuple dict set frozenset isinstance"
    " ord repr any all divmod Exception ValueError TypeError KeyError IndexError LookupError ZeroDivisionError"
    " ArithmeticError OverflowError RuntimeError NotImplementedError AttributeError StopIteration".split()
)
BASES = {name for name in OWN_NAMES if name[0].isupper()} - {"StopIteration", "AttributeError"}
METHODS = set(
    "append clear copy count endswith extend find get index insert isalnum isalpha isdigit islower isspace isupper"
    " items join keys ljust lower lstrip partition pop remove replace reverse rfind rjust rpartition rsplit rstrip"
    " setdefault split splitlines startswith strip update upper values zfill bit_length".split()
)
DUNDERS = {"__init__", "__eq__", "__repr__", "__str__", "__len__"}
NEVER = set("register mro elements open input version_info with_traceback add_note format format_map".split())
WORDS = re.compile(
    r"\b(type|typing|typing_extensions|enum|Enum|IntEnum|StrEnum|Flag|IntFlag|Generic|Protocol|ABC|ABCMeta"
    r"|namedtuple|NamedTuple|TypedDict|TYPE_CHECKING|abstractmethod)\b|dataclass|overload|contextmanager"
)
FILE_NAME = re.compile(r"(__init__|__main__|[a-z][a-z0-9_]*)\.py")
PLAIN_NAME = re.compile(r"[A-Za-z][A-Za-z0-9_]*")
WALKED = {"zip", "enumerate", "reversed", "range"}
PYTHONS_OWN = {name for kind in (str, int, list, tuple, dict, set, bytes) for name in dir(kind)}
FREE_METHODS = METHODS | {"add", "discard"} | DUNDERS
FREE_VALUES = set("count index title find get join lower upper split strip copy add".split())
READERS = set("len list tuple dict sorted sum any all min max enumerate zip reversed".split())
READ_BY = set("get items keys values count index copy".split())
KEYWORDS = {"sorted": ("key", "reverse"), "min": ("key", "default"), "max": ("key", "default"), "sum": ("start",),
            "enumerate": ("start",), "zip": ("strict",)}
STATEMENTS = (
    ast.FunctionDef, ast.ClassDef, ast.ImportFrom, ast.Assign, ast.AugAssign, ast.If, ast.While, ast.For, ast.Return,
    ast.Break, ast.Continue, ast.Pass, ast.Raise, ast.Try, ast.Expr,
)
EXPRESSIONS = (
    ast.Constant, ast.List, ast.Tuple, ast.Dict, ast.BinOp, ast.UnaryOp, ast.BoolOp, ast.Compare, ast.IfExp, ast.Call,
    ast.Attribute, ast.Subscript, ast.Slice, ast.ListComp, ast.JoinedStr, ast.FormattedValue, ast.Name, ast.Lambda,
    ast.Set,
)


def faults_of_text(text):
    """L10, L14 and L17, by the rows of the text."""
    rows = text.split("\n")
    found = [("L10", 0)] if len(rows) > 401 else []
    for number, row in enumerate(rows, start=1):
        if len(row) > 120:
            found.append(("L10", number))
        if any(not " " <= sign <= "~" for sign in row):
            found.append(("L14", number))
        if WORDS.search(row):
            found.append(("L17", number))
    return found


def is_docstring(node):
    return isinstance(node, ast.Expr) and isinstance(node.value, ast.Constant) and isinstance(node.value.value, str)


def is_plain(node):
    if isinstance(node, ast.UnaryOp):
        return isinstance(node.op, ast.USub) and is_plain(node.operand)
    if isinstance(node, (ast.List, ast.Tuple)):
        return all(is_plain(each) for each in node.elts)
    if isinstance(node, ast.Dict):
        return all(each is not None and is_plain(each) for each in node.keys + node.values)
    return isinstance(node, (ast.Constant, ast.Name))


def faults_of_top(tree):
    """L3 and L15: what stands at a file's top, and each name bound there once."""
    found = []
    bound = []
    for place, node in enumerate(tree.body):
        if isinstance(node, (ast.FunctionDef, ast.ClassDef)):
            bound.append((node.name, node.lineno))
        elif isinstance(node, ast.ImportFrom):
            bound.extend((each.asname or each.name, node.lineno) for each in node.names)
        elif isinstance(node, ast.Assign) and isinstance(node.targets[0], ast.Name) and is_plain(node.value):
            bound.append((node.targets[0].id, node.lineno))
        elif not (place == 0 and is_docstring(node)):
            found.append(("L3", node.lineno))
    names = [name for name, line in bound]
    found.extend(("L15", line) for place, (name, line) in enumerate(bound) if name in names[:place])
    return found


def faults_of_import(package, tree, node):
    named = node.module or ""
    good = node.level == 0 and named.startswith(package + ".") and all(each.name != "*" for each in node.names)
    return [] if good and node in tree.body else [("L2", node.lineno)]


def faults_of_function(node):
    found = []
    taken = node.args
    if taken.vararg or taken.kwarg or taken.kwonlyargs or taken.posonlyargs:
        found.append(("L4", node.lineno))
    if isinstance(node, ast.FunctionDef):
        if node.decorator_list or not all(is_plain(each) for each in taken.defaults):
            found.append(("L4", node.lineno))
        if node.end_lineno - node.lineno + 1 > 40:
            found.append(("L10", node.lineno))
        if node.name == "__init__" and any(isinstance(each, ast.Return) and each.value for each in ast.walk(node)):
            found.append(("L28", node.lineno))
        if node.returns or any(each.annotation for each in taken.args):
            found.append(("L21", node.lineno))
    return found


def faults_of_class(tree, node):
    found = []
    named = [base.id for base in node.bases if isinstance(base, ast.Name)]
    own = [base for base in named if not hasattr(builtins, base) or base in BASES]
    if len(node.bases) > 1 or len(own) != len(node.bases) or node.keywords or node.decorator_list:
        found.append(("L5", node.lineno))
    if node not in tree.body:
        found.append(("L15", node.lineno))
    methods = []
    for place, each in enumerate(node.body):
        if isinstance(each, ast.FunctionDef):
            if each.name in methods:
                found.append(("L18", each.lineno))
            methods.append(each.name)
        elif not isinstance(each, ast.Pass) and not (place == 0 and is_docstring(each)):
            found.append(("L5", each.lineno))
    return found


def faults_of_statement(package, tree, node):
    line = node.lineno
    if isinstance(node, ast.Import):
        return [("L2", line)]
    if not isinstance(node, STATEMENTS):
        return [("L6", line)]
    if isinstance(node, ast.ImportFrom):
        return faults_of_import(package, tree, node)
    if isinstance(node, ast.ClassDef):
        return faults_of_class(tree, node)
    if isinstance(node, ast.FunctionDef):
        return faults_of_function(node)
    if isinstance(node, ast.Expr) and not isinstance(node.value, ast.Call) and not is_docstring(node):
        return [("L6", line)]
    if isinstance(node, ast.Assign) and len(node.targets) > 1:
        return [("L6", line)]
    if isinstance(node, (ast.While, ast.For)) and node.orelse:
        return [("L6", line)]
    if isinstance(node, ast.Try):
        return faults_of_try(node)
    if isinstance(node, ast.Raise) and not isinstance(node.exc, ast.Call):
        return [("L19", line)]
    return []


def faults_of_try(node):
    found = [("L6", node.lineno)] if node.finalbody else []
    for handler in node.handlers:
        taken = handler.type.elts if isinstance(handler.type, ast.Tuple) else [handler.type]
        if any(not isinstance(each, ast.Name) or each.id in ("Exception", "TypeError") for each in taken):
            found.append(("L19", handler.lineno))
    return found


def faults_of_operator(node):
    if isinstance(node.op, (ast.Div, ast.MatMult)):
        return [("L7", node.lineno)]
    if isinstance(node.op, ast.Pow):
        power = getattr(node, "right", None)
        if not (isinstance(power, ast.Constant) and power.value in range(65)):
            return [("L27", node.lineno)]
    return []


def faults_of_constant(node):
    if isinstance(node.value, str):
        return [("L27", node.lineno)] if "%" in node.value else []
    if node.value is None or isinstance(node.value, int):
        return []
    return [("L7", node.lineno)]


def faults_of_comparison(node):
    found = []
    for operator, right in zip(node.ops, node.comparators):
        if isinstance(operator, (ast.Is, ast.IsNot)):
            if not any(isinstance(each, ast.Constant) and each.value in (None, True, False)
                       for each in (node.left, right)):
                found.append(("L20", node.lineno))
    return found


def faults_of_name(node):
    if node.id in NEVER or (hasattr(builtins, node.id) and node.id not in OWN_NAMES):
        return [("L8", node.lineno)]
    if isinstance(node.ctx, ast.Store) and hasattr(builtins, node.id):
        return [("L15", node.lineno)]
    return [] if PLAIN_NAME.fullmatch(node.id) else [("L12", node.lineno)]


def faults_of_expression(node):
    line = getattr(node, "lineno", 0)
    if not isinstance(node, EXPRESSIONS):
        return [("L7", line)]
    if isinstance(node, ast.Constant):
        return faults_of_constant(node)
    if isinstance(node, ast.BinOp):
        return faults_of_operator(node)
    if isinstance(node, ast.Compare):
        return faults_of_comparison(node)
    if isinstance(node, ast.Name):
        return faults_of_name(node)
    if isinstance(node, ast.Lambda):
        return faults_of_function(node)
    if isinstance(node, ast.ListComp) and (len(node.generators) > 1 or len(node.generators[0].ifs) > 1):
        return [("L7", line)]
    if isinstance(node, ast.FormattedValue):
        plain = isinstance(node.value, ast.Name) and node.conversion in (-1, ord("r")) and not node.format_spec
        return [] if plain else [("L7", line)]
    if isinstance(node, ast.Attribute) and (node.attr in NEVER or node.attr.startswith("_")):
        return [] if node.attr == "__init__" else [("L17", line)]
    return []


def faults_of_node(package, tree, node):
    if isinstance(node, ast.stmt):
        found = faults_of_statement(package, tree, node)
        if isinstance(node, ast.AugAssign):
            found = found + faults_of_operator(node)
        if isinstance(node, (ast.FunctionDef, ast.ClassDef)):
            if not PLAIN_NAME.fullmatch(node.name) and node.name not in DUNDERS:
                found = found + [("L12", node.lineno)]
        return found
    if isinstance(node, ast.expr):
        return faults_of_expression(node)
    if isinstance(node, ast.arg):
        if hasattr(builtins, node.arg):
            return [("L15", node.lineno)]
        return [] if PLAIN_NAME.fullmatch(node.arg) else [("L12", node.lineno)]
    return []


def faults_of_file(package, text):
    """The tuples (rule, row) of what one file has outside the rules."""
    tree = ast.parse(text)
    found = faults_of_text(text) + faults_of_top(tree) + faults_of_walks(tree) + faults_of_sets(tree)
    found = found + faults_of_locals(tree) + faults_of_kept(tree) + faults_of_keywords(tree)
    for node in ast.walk(tree):
        found = found + faults_of_node(package, tree, node)
    return found


def faults_of_walks(tree):
    """L23: what is made to be walked is not kept."""
    kept = [node for node in ast.walk(tree) if isinstance(node, (ast.Assign, ast.Return))]
    found = []
    for node in kept:
        value = node.value
        if isinstance(value, ast.Call) and isinstance(value.func, ast.Name) and value.func.id in WALKED:
            found.append(("L23", node.lineno))
    return found


def is_set(node):
    if isinstance(node, ast.BinOp):
        return is_set(node.left) or is_set(node.right)
    return isinstance(node, ast.Set) or is_call_of(node, {"set", "frozenset"})


def is_call_of(node, names):
    return isinstance(node, ast.Call) and isinstance(node.func, ast.Name) and node.func.id in names


def faults_of_sets(tree):
    """L24: a set is asked on the spot, not kept and not walked."""
    asked = []
    for node in ast.walk(tree):
        if isinstance(node, ast.Compare):
            good = all(isinstance(each, (ast.In, ast.NotIn, ast.Eq, ast.NotEq)) for each in node.ops)
            asked.extend([node.left] + node.comparators if good else [])
        elif isinstance(node, ast.BinOp) and isinstance(node.op, (ast.Sub, ast.BitAnd, ast.BitOr, ast.BitXor)):
            asked.extend([node.left, node.right])
        elif is_call_of(node, {"sorted", "len"}) and not node.keywords:
            asked.extend(node.args)
    return [("L24", node.lineno) for node in ast.walk(tree) if is_set(node) and node not in asked]


def faults_of_locals(tree):
    """L15: no parameter and no local is called like a class or an import of its file."""
    taken = [each.asname or each.name for node in tree.body if isinstance(node, ast.ImportFrom) for each in node.names]
    taken = taken + [node.name for node in tree.body if isinstance(node, ast.ClassDef)]
    found = []
    for node in ast.walk(tree):
        if isinstance(node, ast.arg) and node.arg in taken:
            found.append(("L15", node.lineno))
        elif isinstance(node, ast.Name) and isinstance(node.ctx, ast.Store) and node.id in taken:
            found.append(("L15", node.lineno))
    return found


def faults_of_kept(tree):
    """L15: a list or dict of a file's top holds none itself, and is only read."""
    found = []
    kept = []
    for node in tree.body:
        if isinstance(node, ast.Assign) and isinstance(node.value, (ast.List, ast.Dict)):
            kept.append(node.targets[0].id)
            within = [each for each in ast.walk(node.value) if isinstance(each, (ast.List, ast.Dict))]
            found.extend(("L15", each.lineno) for each in within if each is not node.value)
    read = []
    for node in ast.walk(tree):
        if isinstance(node, ast.Subscript) and isinstance(node.ctx, ast.Load):
            read.append(node.value)
        elif isinstance(node, (ast.For, ast.comprehension)):
            read.append(node.iter)
        elif isinstance(node, ast.Compare):
            read.extend([node.left] + node.comparators)
        elif is_call_of(node, READERS):
            read.extend(node.args)
        elif isinstance(node, ast.Attribute) and node.attr in READ_BY:
            read.append(node.value)
    found.extend(("L15", node.lineno) for node in ast.walk(tree) if isinstance(node, ast.Name)
                 and isinstance(node.ctx, ast.Load) and node.id in kept and node not in read)
    return found


def faults_of_keywords(tree):
    """L22: which keywords stand at Python's own."""
    found = []
    for node in ast.walk(tree):
        if isinstance(node, ast.Call):
            name = node.func.attr if isinstance(node.func, ast.Attribute) else getattr(node.func, "id", None)
            if name in OWN_NAMES | METHODS and any(each.arg not in KEYWORDS.get(name, ()) for each in node.keywords):
                found.append(("L22", node.lineno))
    return found


def drawn_from(tree):
    """The modules that a file draws from, with the names that it takes."""
    return [(node.module, [each.name for each in node.names]) for node in ast.walk(tree)
            if isinstance(node, ast.ImportFrom)]


def defined_in(tree):
    named = [node.name for node in tree.body if isinstance(node, (ast.FunctionDef, ast.ClassDef))]
    return named + [node.targets[0].id for node in tree.body if isinstance(node, ast.Assign)]


def faults_of_drawing(trees):
    """L16: a name comes from the file that defines it, and no two files draw from one another."""
    found = []
    for module, tree in trees.items():
        for source, names in drawn_from(tree):
            if source not in trees or any(name not in defined_in(trees[source]) for name in names):
                found.append(("L16", module))
        if module in led_to(trees, module):
            found.append(("L16", module))
    return found


def led_to(trees, module):
    met = []
    waiting = [source for source, names in drawn_from(trees[module])]
    while waiting:
        source = waiting.pop()
        if source in trees and source not in met:
            met.append(source)
            waiting.extend(further for further, names in drawn_from(trees[source]))
    return met


def faults_of_methods(trees):
    """L18, L25 and L26: no name both a method and a value; Python's own methods are those of the list, and no
    method or value bears the name of another one of them."""
    nodes = [node for tree in trees.values() for node in ast.walk(tree)]
    methods = {each.name for node in nodes if isinstance(node, ast.ClassDef)
               for each in node.body if isinstance(each, ast.FunctionDef)}
    given = {node.attr for node in nodes if isinstance(node, ast.Attribute) and isinstance(node.ctx, ast.Store)}
    called = {node.func.attr for node in nodes if isinstance(node, ast.Call) and isinstance(node.func, ast.Attribute)}
    foreign = (methods - FREE_METHODS | given - FREE_VALUES) & PYTHONS_OWN
    return [("L18", name) for name in sorted(methods & given)] + [
        ("L25", name) for name in sorted(called - methods - METHODS)] + [("L26", name) for name in sorted(foreign)]
