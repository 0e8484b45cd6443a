"""Holds the files of the package against those rules of LANGUAGE.md that a script can see.

`faults(files)` takes a dict from file names to texts and returns a list of (rule, file, line).
"""

import ast
import builtins
import re

from tests.rules_wide import wide_faults

BUILTINS = set("""len range enumerate zip min max sum abs sorted reversed int str bool bytes list tuple dict set
    isinstance ord repr any all divmod iter next Exception ValueError TypeError KeyError IndexError LookupError
    ZeroDivisionError ArithmeticError OverflowError RuntimeError NotImplementedError AttributeError StopIteration
    NotImplemented staticmethod classmethod property super""".split())
METHODS = set("""append clear copy count endswith extend find get index insert isalnum isalpha isdigit islower isspace
    isupper items join keys ljust lower lstrip partition pop remove replace reverse rfind rjust rpartition rsplit
    rstrip setdefault split splitlines startswith strip update upper values zfill bit_length title capitalize swapcase
    casefold center expandtabs removeprefix removesuffix rindex isascii isdecimal isnumeric istitle isidentifier
    isprintable translate sort add discard encode decode""".split())
BUILTIN_METHODS = set(name for kind in (str, list, dict, set, tuple, int, bytes) for name in dir(kind))
CHANGING = set("append clear extend insert pop remove reverse setdefault update sort add discard".split())
SPECIAL = set("""__init__ __eq__ __repr__ __str__ __len__ __enter__ __exit__ __call__ __iter__ __lt__ __le__ __gt__
    __ge__ __ne__ __add__ __sub__ __mul__ __floordiv__ __mod__ __pow__ __and__ __or__ __xor__ __lshift__ __rshift__
    __neg__ __pos__ __invert__ __abs__ __bool__ __contains__ __getitem__ __setitem__""".split())
NO_NAMES = set("register mro elements open input law version_info with_traceback add_note".split())
NO_VARIABLES = set("""attrgetter breakpoint builtins compile copyright credits delattr dir eval exec exit gc getattr
    globals hasattr help id importlib license locals methodcaller os quit setattr super type vars sys""".split())
WORDS = """type typing typing_extensions enum Enum IntEnum StrEnum Flag IntFlag Generic Protocol ABC ABCMeta namedtuple
    NamedTuple TypedDict TYPE_CHECKING abstractmethod""".split()
NO_WORDS = re.compile(r"\b(" + "|".join(WORDS) + r")\b|dataclass|overload|contextmanager")
STATEMENTS = (
    ast.Assign, ast.AugAssign, ast.AnnAssign, ast.If, ast.While, ast.For, ast.Return, ast.Break, ast.Continue, ast.Pass,
    ast.Raise, ast.Assert, ast.Delete, ast.Nonlocal, ast.Match, ast.With, ast.Try, ast.Expr, ast.FunctionDef,
    ast.ClassDef, ast.ImportFrom,
)


def faults(files):
    found = []
    trees = {}
    for name, text in files.items():
        found += [(rule, name, line) for rule, line in text_faults(text)]
        trees[name] = ast.parse(text)
        found += [(rule, name, line) for rule, line in tree_faults(trees[name])]
        if not re.fullmatch(r"[a-z][a-z0-9_]*\.py|__init__\.py", name):
            found.append(("L14", name, 1))
    found += import_faults(trees)
    found += changing_faults(trees)
    found += wide_faults(trees, BUILTIN_METHODS)
    return found


def text_faults(text):
    lines = text.split("\n")
    if len(lines) - 1 > 399:
        yield "L10", 400
    for at, line in enumerate(lines, 1):
        if len(line) > 120:
            yield "L10", at
        if any(not " " <= letter <= "~" for letter in line):
            yield "L14", at
        if NO_WORDS.search(line):
            yield "L17", at


def tree_faults(tree):
    yield from module_faults(tree)
    bound = top_names(tree)
    for node in ast.walk(tree):
        line = getattr(node, "lineno", 0)
        for rule in node_faults(node):
            yield rule, line
        if isinstance(node, ast.FunctionDef):
            if node.end_lineno - node.lineno + 1 > 40:
                yield "L10", line
            for name, at in local_names(node):
                if name in bound:
                    yield "L15", at


def is_docstring(node):
    return isinstance(node, ast.Expr) and isinstance(node.value, ast.Constant) and isinstance(node.value.value, str)


def module_faults(tree):
    late = False
    seen = set()
    for at, node in enumerate(tree.body):
        if isinstance(node, ast.ImportFrom):
            if late:
                yield "L2", node.lineno
        elif not (at == 0 and is_docstring(node)):
            late = True
            plain = isinstance(node, ast.Assign) and len(node.targets) == 1 and isinstance(node.targets[0], ast.Name)
            if not plain and not isinstance(node, (ast.FunctionDef, ast.ClassDef)):
                yield "L3", node.lineno
            if plain and any(isinstance(part, (ast.Call, ast.comprehension)) for part in ast.walk(node.value)):
                yield "L3", node.lineno
        for name in bound_names(node):
            if name in seen or hasattr(builtins, name):
                yield "L15", node.lineno
            seen.add(name)


def bound_names(node):
    if isinstance(node, ast.ImportFrom):
        return [alias.asname or alias.name for alias in node.names]
    if isinstance(node, (ast.FunctionDef, ast.ClassDef)):
        return [node.name]
    if isinstance(node, ast.Assign):
        return [target.id for target in node.targets if isinstance(target, ast.Name)]
    return []


def top_names(tree):
    """Returns the names of the classes and the imports of a file."""
    kinds = (ast.ImportFrom, ast.ClassDef)
    return set(name for node in tree.body if isinstance(node, kinds) for name in bound_names(node))


def parameters(function):
    told = function.args
    more = [one for one in (told.vararg, told.kwarg) if one is not None]
    return told.posonlyargs + told.args + told.kwonlyargs + more


def local_names(function):
    for one in parameters(function):
        yield one.arg, one.lineno
    for node in ast.walk(function):
        if isinstance(node, ast.Name) and isinstance(node.ctx, ast.Store):
            yield node.id, node.lineno
        if isinstance(node, ast.FunctionDef) and node is not function:
            yield node.name, node.lineno


def node_faults(node):
    if isinstance(node, ast.stmt) and not isinstance(node, STATEMENTS):
        yield "L6"
    if isinstance(node, ast.Import):
        yield "L2"
    if isinstance(node, ast.ImportFrom):
        inside = node.level == 0 and (node.module.startswith("tiespan.") or node.module == "__future__")
        if not inside or any(alias.name == "*" for alias in node.names):
            yield "L2"
    yield from name_faults(node)
    yield from value_faults(node)
    yield from definition_faults(node)
    if isinstance(node, ast.Call):
        yield from call_faults(node)


def name_faults(node):
    names = []
    if isinstance(node, ast.Name):
        names = [node.id]
        if hasattr(builtins, node.id) and node.id not in BUILTINS:
            yield "L8"
        if isinstance(node.ctx, ast.Store) and (hasattr(builtins, node.id) or node.id in NO_VARIABLES):
            yield "L15"
    elif isinstance(node, ast.Attribute):
        names = [node.attr]
        if node.attr in ("format", "format_map", "mro"):
            yield "L8"
    elif isinstance(node, (ast.FunctionDef, ast.ClassDef)):
        names = [node.name]
        if node.name in NO_VARIABLES:
            yield "L17"
    elif isinstance(node, ast.arg):
        names = [node.arg]
        if hasattr(builtins, node.arg) or node.arg in NO_VARIABLES:
            yield "L15"
    for name in names:
        if name in NO_NAMES:
            yield "L17"
        if name.startswith("_") and name not in SPECIAL:
            yield "L12"


def value_faults(node):
    if isinstance(node, ast.Constant) and isinstance(node.value, (float, complex)):
        yield "L7"
    if isinstance(node, ast.Constant) and isinstance(node.value, str) and "%" in node.value:
        yield "L27"
    if isinstance(node, (ast.BinOp, ast.AugAssign)) and isinstance(node.op, (ast.Div, ast.MatMult)):
        yield "L7"
    if isinstance(node, ast.BinOp) and isinstance(node.op, ast.Pow):
        power = node.right
        if not isinstance(power, ast.Constant) or not 0 <= power.value <= 64:
            yield "L27"
    if isinstance(node, ast.Compare):
        for op, one in zip(node.ops, node.comparators):
            if isinstance(op, (ast.Is, ast.IsNot)):
                if not isinstance(one, ast.Constant) or not (one.value is None or isinstance(one.value, bool)):
                    yield "L20"


def definition_faults(node):
    if isinstance(node, ast.ClassDef) and node.decorator_list:
        yield "L5"
    if isinstance(node, (ast.FunctionDef, ast.Lambda)) and node.args.posonlyargs:
        yield "L4"
    if isinstance(node, ast.FunctionDef):
        if node.name.startswith("__") and node.name not in SPECIAL:
            yield "L5"
        for one in node.decorator_list:
            setter = isinstance(one, ast.Attribute) and one.attr == "setter"
            known = isinstance(one, ast.Name) and one.id in ("staticmethod", "classmethod", "property")
            if not setter and not known:
                yield "L4"


def call_faults(node):
    asked = node.func
    if isinstance(asked, ast.Attribute) and asked.attr in BUILTIN_METHODS:
        if asked.attr not in METHODS and not asked.attr.startswith("__"):
            yield "L25"
    if isinstance(asked, ast.Name) and asked.id in ("sum", "min", "max", "sorted", "any", "all"):
        if any(isinstance(one, ast.GeneratorExp) for one in node.args):
            yield "L5"
        if asked.id in ("min", "max", "sorted") and not any(is_plain(one) for one in node.args):
            yield "L5"


def is_plain(node):
    """Returns whether a value is plainly a number or a string, or a list of such."""
    if isinstance(node, ast.ListComp):
        return is_plain(node.elt)
    if isinstance(node, ast.Call) and isinstance(node.func, ast.Name):
        return node.func.id in ("len", "int", "ord", "str", "repr", "range")
    return isinstance(node, (ast.Constant, ast.JoinedStr))


def import_faults(trees):
    """L16: each import names the very file that defines the name, and no two files import from each other."""
    defined = {name: set() for name in trees}
    edges = {name: {} for name in trees}
    for name, tree in trees.items():
        for node in tree.body:
            if not isinstance(node, ast.ImportFrom):
                defined[name] |= set(bound_names(node))
    for name, tree in trees.items():
        for node in ast.walk(tree):
            if isinstance(node, ast.ImportFrom) and (node.module or "").startswith("tiespan."):
                source = node.module.split(".", 1)[1] + ".py"
                edges[name][source] = node.lineno
                for alias in node.names:
                    if alias.name not in defined.get(source, ()):
                        yield "L16", name, node.lineno
    for name in edges:
        for source, line in edges[name].items():
            if reaches(edges, source, name):
                yield "L16", name, line


def reaches(edges, start, end):
    seen, todo = set(), [start]
    while todo:
        name = todo.pop()
        if name == end:
            return True
        if name not in seen:
            seen.add(name)
            todo += list(edges.get(name, ()))
    return False


def changing_faults(trees):
    """L5 and L28: what an operator, `__eq__`, `__repr__`, `__len__` or a property calls changes only own lists."""
    known = {}
    todo = []
    for name, tree in trees.items():
        for node in ast.walk(tree):
            if isinstance(node, ast.FunctionDef):
                known.setdefault(node.name, []).append((name, node))
                operator = node.name in SPECIAL and node.name not in ("__init__", "__call__")
                asked = any(isinstance(one, ast.Name) and one.id == "property" for one in node.decorator_list)
                if operator or asked:
                    todo.append((name, node))
            if isinstance(node, ast.ClassDef):
                inits = [(name, one) for one in node.body if getattr(one, "name", "") == "__init__"]
                known.setdefault(node.name, []).extend(inits)
    seen = []
    while todo:
        name, function = todo.pop()
        if function in seen:
            continue
        seen.append(function)
        for line in changes(function):
            yield "L5", name, line
        for node in ast.walk(function):
            if isinstance(node, ast.Call):
                called = node.func.id if isinstance(node.func, ast.Name) else getattr(node.func, "attr", "")
                if called not in CHANGING:
                    todo += known.get(called, [])


def own_names(function):
    """Returns the local names that are assigned nothing but lists and dicts made on the spot."""
    good, bad = set(), set(one.arg for one in parameters(function))
    for node in ast.walk(function):
        if isinstance(node, ast.Assign):
            value = node.value
            made = isinstance(value, (ast.List, ast.Dict, ast.ListComp))
            if isinstance(value, ast.Call) and isinstance(value.func, ast.Name):
                made = made or value.func.id in ("list", "dict", "sorted")
            for target in node.targets:
                if isinstance(target, ast.Name):
                    (good if made else bad).add(target.id)
    return good - bad


def changes(function):
    own = own_names(function)
    for node in ast.walk(function):
        base = None
        if isinstance(node, (ast.Subscript, ast.Attribute)) and isinstance(node.ctx, (ast.Store, ast.Del)):
            base = node.value
            if isinstance(node, ast.Attribute) and function.name == "__init__":
                continue
        elif isinstance(node, ast.Call) and isinstance(node.func, ast.Attribute) and node.func.attr in CHANGING:
            base = node.func.value
        elif isinstance(node, ast.AugAssign) and isinstance(node.target, ast.Name):
            if not isinstance(node.value, ast.Constant) or not isinstance(node.value.value, int):
                yield node.lineno
        if base is not None and not (isinstance(base, ast.Name) and base.id in own):
            yield node.lineno
