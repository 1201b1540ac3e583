"""Which loops change what they walk, under whatever name, field or choice it goes in the function."""

import ast

CHANGERS = (
    "append", "clear", "extend", "insert", "pop", "remove", "reverse", "setdefault", "update",
    "sort", "add", "discard",
)
GOES_THROUGH = ("enumerate", "zip", "reversed")
VIEWS = ("items", "keys", "values")
COMPREHENSIONS = (ast.ListComp, ast.SetComp, ast.DictComp, ast.GeneratorExp)


def handles(node):
    """By what the thing is known: names, fields `.rows` of whatever object, items `rows[]`."""
    if isinstance(node, ast.Name):
        return [node.id]
    if isinstance(node, ast.Attribute):
        return ["." + node.attr]
    if isinstance(node, ast.Subscript) and not isinstance(node.slice, ast.Slice):
        return [handle + "[]" for handle in handles(node.value)]
    if isinstance(node, ast.IfExp):
        return handles(node.body) + handles(node.orelse)
    if isinstance(node, ast.BoolOp):
        return [handle for value in node.values for handle in handles(value)]
    if isinstance(node, ast.NamedExpr):
        return handles(node.target) + handles(node.value)
    return []


def walked(node):
    """The handles of what a loop over this walks."""
    if isinstance(node, ast.Call):
        if isinstance(node.func, ast.Name) and node.func.id in GOES_THROUGH:
            return [handle for part in node.args for handle in walked(part)]
        if isinstance(node.func, ast.Attribute) and node.func.attr in VIEWS:
            return walked(node.func.value)
    return handles(node)


def changes(node):
    """The couples (row, handle) of what is changed here."""
    found = []
    for part in ast.walk(node):
        changed = []
        if isinstance(part, ast.Call) and isinstance(part.func, ast.Attribute) and part.func.attr in CHANGERS:
            changed = handles(part.func.value)
        elif isinstance(part, ast.Subscript) and isinstance(part.ctx, (ast.Store, ast.Del)):
            changed = handles(part.value)
        elif isinstance(part, ast.AugAssign):
            changed = handles(part.target)
        found += [(part.lineno, handle) for handle in changed]
    return found


def couples(target, value):
    """The couples of handles that an assignment makes the same thing."""
    both = (target, value)
    if all(isinstance(side, (ast.Tuple, ast.List)) for side in both) and len(target.elts) == len(value.elts):
        return [couple for pair in zip(target.elts, value.elts) for couple in couples(*pair)]
    return [(one, other) for one in handles(target) for other in handles(value)]


def links(function):
    found = []
    for part in ast.walk(function):
        if isinstance(part, ast.Assign):
            found += [couple for target in part.targets for couple in couples(target, part.value)]
            found += [couple for target in part.targets for couple in couples(part.targets[0], target)]
        elif isinstance(part, (ast.AnnAssign, ast.NamedExpr)) and part.value is not None:
            found += couples(part.target, part.value)
    return found


def all_handles(start, linked):
    """The handles that are linked to one of those at the start, over as many links as need be."""
    found = set(start)
    while True:
        more = {handle for couple in linked if found & set(couple) for handle in couple}
        if more <= found:
            return found
        found |= more


def loops(function):
    """The couples (what is walked, the nodes that are run meanwhile) of all loops of the function."""
    for node in ast.walk(function):
        if isinstance(node, ast.For):
            yield node.iter, node.body
        elif isinstance(node, COMPREHENSIONS):
            for part in node.generators:
                yield part.iter, [node]


def changed_walks(tree):
    """The couples (row, handle) of what is changed in a loop that walks it, by whatever name."""
    found = []
    for function in ast.walk(tree):
        if isinstance(function, ast.FunctionDef):
            linked = links(function)
            for head, body in loops(function):
                barred = all_handles(walked(head), linked)
                found += [change for node in body for change in changes(node) if change[1] in barred]
    return sorted(set(found))
