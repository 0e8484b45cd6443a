"""Checks of the rules of LANGUAGE.md that need all files at once, or look at classes, generators and calls with stars."""

import ast

PLAIN_STARS = (ast.Name, ast.Attribute, ast.Constant, ast.List, ast.Tuple, ast.Dict)
ERRORS_OF_PYTHON = set("Exception ValueError LookupError IndexError KeyError ZeroDivisionError TypeError".split())


def wide_faults(trees, builtin_methods):
    yield from clashes(trees, builtin_methods)
    yield from generator_faults(trees)
    for name, tree in trees.items():
        for node in ast.walk(tree):
            for rule in star_faults(node):
                yield rule, name, node.lineno
            for rule in handler_faults(node):
                yield rule, name, node.lineno
            for rule in finally_faults(node):
                yield rule, name, node.lineno
            for rule in method_faults(node):
                yield rule, name, node.lineno


def decorators(method):
    return [one.id for one in method.decorator_list if isinstance(one, ast.Name)]


def clashes(trees, builtin_methods):
    """L18 and L5: a name is a method, a static method, a property, a class value or an attribute, and only one of them."""
    sorts = {}
    read = []
    for name, tree in trees.items():
        for node in ast.walk(tree):
            if isinstance(node, ast.ClassDef):
                for one in node.body:
                    if isinstance(one, ast.FunctionDef) and not one.name.startswith("__"):
                        kind = [told for told in decorators(one) if told in ("staticmethod", "classmethod", "property")]
                        setter = any(isinstance(told, ast.Attribute) for told in one.decorator_list)
                        sort = "property" if setter else (kind or ["method"])[0]
                        sorts.setdefault(one.name, {})[sort] = (name, one.lineno)
                    if isinstance(one, ast.Assign):
                        for target in one.targets:
                            sorts.setdefault(target.id, {})["class value"] = (name, one.lineno)
            if isinstance(node, ast.Attribute):
                if isinstance(node.ctx, ast.Store):
                    sorts.setdefault(node.attr, {}).setdefault("attribute", (name, node.lineno))
                else:
                    read.append((node.attr, name, node.lineno))
    for word, found in sorts.items():
        # A property with a setter is assigned like an attribute.
        if len(found) > 1 and set(found) != {"property", "attribute"}:
            yield ("L18", *list(found.values())[0])
        if word in builtin_methods and set(found) != {"method"}:
            yield ("L26", *list(found.values())[0])
    for word, name, line in read:
        if word not in sorts and word not in builtin_methods and word != "setter":
            yield "L18", name, line


def inner_nodes(function):
    """Returns the nodes of a function without those of the functions nested in it."""
    found, todo = [], list(function.body)
    while todo:
        node = todo.pop()
        found.append(node)
        if not isinstance(node, (ast.FunctionDef, ast.Lambda)):
            todo += list(ast.iter_child_nodes(node))
    return found


def generator_faults(trees):
    """L23: a generator has a name of its own, returns nothing, and is iterated where it is called."""
    functions = [(name, node) for name, tree in trees.items() for node in ast.walk(tree) if isinstance(node, ast.FunctionDef)]
    generators = {}
    for name, function in functions:
        nodes = inner_nodes(function)
        if any(isinstance(node, (ast.Yield, ast.YieldFrom)) for node in nodes):
            generators[function.name] = (name, function.lineno)
            if any(isinstance(node, ast.Return) and node.value is not None for node in nodes):
                yield "L23", name, function.lineno
            if any(isinstance(node, (ast.Try, ast.With)) for node in nodes):
                yield "L23", name, function.lineno
            if function.decorator_list or function.name.startswith("__"):
                yield "L23", name, function.lineno
    for word, place in generators.items():
        if [function.name for name, function in functions].count(word) > 1:
            yield ("L23", *place)
    for name, tree in trees.items():
        yield from stored_generators(name, tree, generators)


def stored_generators(name, tree, generators):
    at_once = set()
    for node in ast.walk(tree):
        if isinstance(node, (ast.For, ast.comprehension)):
            at_once.add(node.iter)
        if isinstance(node, ast.YieldFrom):
            at_once.add(node.value)
        if isinstance(node, ast.Call) and isinstance(node.func, ast.Name) and node.args:
            if node.func.id in "list tuple dict sorted sum min max any all enumerate zip".split():
                at_once.update(node.args)
    for node in ast.walk(tree):
        if isinstance(node, ast.Call):
            called = node.func.id if isinstance(node.func, ast.Name) else getattr(node.func, "attr", "")
            if called in generators and node not in at_once:
                yield "L23", name, node.lineno


def star_faults(node):
    """L7: behind a star in a call, and behind two of them in a dict, stands what is plain."""
    if isinstance(node, ast.Call):
        if any(isinstance(one, ast.Starred) and not isinstance(one.value, PLAIN_STARS) for one in node.args):
            yield "L7"
        if any(one.arg is None and not isinstance(one.value, PLAIN_STARS) for one in node.keywords):
            yield "L7"
    if isinstance(node, ast.Dict):
        if any(key is None and not isinstance(one, PLAIN_STARS) for key, one in zip(node.keys, node.values)):
            yield "L7"
    if isinstance(node, (ast.Set, ast.SetComp)):
        yield "L24"


def handler_faults(node):
    """L19: no handler takes all errors, and errors are raised on the spot by name."""
    if isinstance(node, ast.ExceptHandler):
        caught = node.type.elts if isinstance(node.type, ast.Tuple) else [node.type]
        if any(not isinstance(one, ast.Name) or one.id in ERRORS_OF_PYTHON for one in caught):
            yield "L19"
    if isinstance(node, ast.Raise) and node.exc is not None:
        if not isinstance(node.exc, ast.Call) or not isinstance(node.exc.func, ast.Name) or not node.exc.func.id[0].isupper():
            yield "L19"


def is_simple(node):
    """Returns whether a value is one that L6 allows in a `finally`."""
    if isinstance(node, (ast.List, ast.Tuple)):
        return all(is_simple(one) for one in node.elts)
    if isinstance(node, ast.BinOp) and isinstance(node.op, ast.Add):
        return is_simple(node.left) and is_simple(node.right)
    return isinstance(node, (ast.Name, ast.Constant)) or (isinstance(node, ast.Attribute) and is_simple(node.value))


def finally_faults(node):
    """L6: a `finally` assigns what is simple to names and attributes."""
    if isinstance(node, ast.Try):
        for one in node.finalbody:
            plain = isinstance(one, ast.Assign) and len(one.targets) == 1 and isinstance(one.targets[0], (ast.Name, ast.Attribute))
            if not isinstance(one, ast.Pass) and not (plain and is_simple(one.value)):
                yield "L6"


def is_length(node):
    if isinstance(node, ast.Constant):
        return isinstance(node.value, int)
    return isinstance(node, ast.Call) and isinstance(node.func, ast.Name) and node.func.id == "len"


def is_text(node):
    if isinstance(node, ast.Call) and isinstance(node.func, ast.Name):
        return node.func.id in ("str", "repr")
    return isinstance(node, ast.JoinedStr) or (isinstance(node, ast.Constant) and isinstance(node.value, str))


def method_faults(node):
    """L5 and L28: what class methods do with their class, and what `__len__`, `__repr__` and `__init__` return."""
    if not isinstance(node, ast.FunctionDef):
        return
    returns = [one for one in ast.walk(node) if isinstance(one, ast.Return)]
    if node.name == "__len__" and not all(is_length(one.value) for one in returns):
        yield "L28"
    if node.name in ("__repr__", "__str__") and not all(is_text(one.value) for one in returns):
        yield "L28"
    if node.name == "__init__" and returns:
        yield "L28"
    if "classmethod" in decorators(node):
        used = [one.func for one in ast.walk(node) if isinstance(one, ast.Call)]
        used += [one.value for one in ast.walk(node) if isinstance(one, ast.Attribute)]
        first = node.args.args[0].arg
        if any(isinstance(one, ast.Name) and one.id == first and one not in used for one in ast.walk(node)):
            yield "L5"
