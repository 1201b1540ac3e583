"""The form of the package's files, as far as a walk through them can tell it."""

import ast
import unittest
from pathlib import Path

from tests.walks import changed_walks

PACKAGE = Path(__file__).resolve().parent.parent / "wherelaid"
LIBRARY = {"math": ("gcd", "lcm", "isqrt", "comb", "perm", "factorial")}
BUILTINS = {
    "len", "range", "enumerate", "zip", "min", "max", "sum", "abs", "sorted", "reversed", "int",
    "str", "bool", "list", "tuple", "dict", "set", "isinstance", "ord", "repr", "any", "all",
    "divmod", "iter", "next", "map", "ValueError", "NotImplemented", "property", "staticmethod",
    "classmethod", "super",
}
KNOWN_BUILTINS = set(vars(__builtins__) if not isinstance(__builtins__, dict) else __builtins__)
METHODS = {
    "__init__", "__eq__", "__repr__", "__str__", "__len__", "__enter__", "__exit__", "__call__",
    "__iter__",
}
COMPREHENSIONS = (ast.ListComp, ast.SetComp, ast.DictComp, ast.GeneratorExp)
BARRED = (ast.AsyncFunctionDef, ast.Await, ast.AsyncFor, ast.AsyncWith, ast.Div, ast.Global)


def files():
    """The couples (path, tree) of all files of the package."""
    return [(path, ast.parse(path.read_text())) for path in sorted(PACKAGE.rglob("*.py"))]


def nodes(kind):
    for path, tree in files():
        for node in ast.walk(tree):
            if isinstance(node, kind):
                yield f"{path.name}:{getattr(node, 'lineno', 0)}", node


def stored(node):
    """The names that are assigned, but for those of comprehensions."""
    found = set()
    for part in ast.iter_child_nodes(node):
        if not isinstance(part, COMPREHENSIONS):
            if isinstance(part, ast.Name) and isinstance(part.ctx, ast.Store):
                found.add(part.id)
            found |= stored(part)
    return found


def nested(node, inside, outer):
    """The names that comprehensions within comprehensions assign; those further out must be unlike."""
    for part in ast.iter_child_nodes(node):
        names = set()
        if isinstance(part, COMPREHENSIONS):
            names = {name.id for loop in part.generators for name in ast.walk(loop.target)
                     if isinstance(name, ast.Name)}
            if inside:
                assert not names & outer, names
                yield from names
        yield from nested(part, inside or bool(names), outer | names)


def is_lazy(call):
    """Whether the call gives a range, a zip, a view or the like."""
    if isinstance(call.func, ast.Attribute):
        return call.func.attr in ("items", "keys", "values")
    return call.func.id in ("range", "zip", "enumerate", "reversed", "map")


class Form(unittest.TestCase):

    def test_the_folder(self):
        found = [path for path in PACKAGE.iterdir() if path.name != "__pycache__"]
        self.assertTrue(all(path.suffix == ".py" for path in found))
        self.assertTrue(all(path.name == path.name.lower() for path in found))
        self.assertLessEqual(len(found), 100)

    def test_sizes_and_characters(self):
        for path, _ in files():
            text = path.read_text()
            self.assertTrue(text.endswith("\n"), path)
            self.assertTrue(all(sign == "\n" or " " <= sign <= "~" for sign in text), path)
            self.assertLessEqual(len(text.splitlines()), 399, path)
            self.assertLessEqual(max([len(row) for row in text.splitlines()]), 120, path)
        for at, node in nodes(ast.FunctionDef):
            self.assertLessEqual(node.end_lineno - node.lineno + 1, 40, at)

    def test_imports(self):
        for at, _ in nodes(ast.Import):
            self.fail(at)
        for at, node in nodes(ast.ImportFrom):
            self.assertEqual(node.level, 0, at)
            for name in node.names:
                self.assertIsNone(name.asname, at)
                if node.module in LIBRARY:
                    self.assertIn(name.name, LIBRARY[node.module], at)
                else:
                    file = PACKAGE / f"{node.module.removeprefix('wherelaid.')}.py"
                    bound = [getattr(part, "name", None) for part in ast.parse(file.read_text()).body]
                    bound += [part.targets[0].id for part in ast.parse(file.read_text()).body
                              if isinstance(part, ast.Assign)]
                    self.assertIn(name.name, bound, at)

    def test_statements(self):
        for at, _ in nodes(BARRED):
            self.fail(at)
        for at, node in nodes(ast.BinOp):
            if isinstance(node.op, ast.Pow):
                self.assertIn(node.right.value, range(65), at)
        for at, node in nodes((ast.FunctionDef, ast.ClassDef)):
            for decorator in node.decorator_list:
                self.assertEqual(ast.unparse(decorator), "property", at)
            if node.name.startswith("__"):
                self.assertIn(node.name, METHODS, at)

    def test_no_generator_expressions(self):
        # Classes here have `__eq__`: then any, all, sum, min, max and sorted take a list.
        for at, _ in nodes(ast.GeneratorExp):
            self.fail(at)

    def test_builtins(self):
        for at, node in nodes(ast.Name):
            if node.id in KNOWN_BUILTINS:
                self.assertIn(node.id, BUILTINS, at)
                self.assertIsInstance(node.ctx, ast.Load, at)
        for at, node in nodes(ast.arg):
            self.assertNotIn(node.arg, KNOWN_BUILTINS, at)

    def test_parameters_and_imports_are_unlike(self):
        for path, tree in files():
            bound = [name.name for part in tree.body if isinstance(part, ast.ImportFrom)
                     for name in part.names]
            bound += [part.name for part in tree.body if isinstance(part, ast.ClassDef)]
            for node in ast.walk(tree):
                if isinstance(node, ast.arg):
                    self.assertNotIn(node.arg, bound, path)
                if isinstance(node, ast.Name) and isinstance(node.ctx, ast.Store):
                    self.assertNotIn(node.id, bound, path)

    def test_names_in_nested_comprehensions(self):
        for at, function in nodes(ast.FunctionDef):
            taken = {part.arg for part in ast.walk(function.args) if isinstance(part, ast.arg)}
            taken |= stored(function)
            for name in nested(function, False, set()):
                self.assertNotIn(name, taken, at)

    def test_lazy_things_are_iterated_at_once(self):
        takers = {"list", "tuple", "dict", "sorted", "sum", "any", "all", "enumerate", "zip", "min", "max"}
        for path, tree in files():
            above = {part: node for node in ast.walk(tree) for part in ast.iter_child_nodes(node)}
            for node in ast.walk(tree):
                if isinstance(node, ast.Call) and is_lazy(node):
                    by, at = above[node], f"{path.name}:{node.lineno}"
                    if isinstance(by, ast.Call):
                        ranged = by.func.id == "reversed" and node.func.id == "range"
                        self.assertTrue(by.func.id in takers or ranged, at)
                    elif isinstance(by, ast.Assign):
                        self.assertEqual(getattr(node.func, "id", None), "range", at)
                    else:
                        self.assertIsInstance(by, (ast.For, ast.comprehension, ast.Compare), at)

    def test_sets_stand_where_they_may(self):
        for at, node in nodes((ast.Set, ast.SetComp)):
            self.fail(at)
        for path, tree in files():
            above = {part: node for node in ast.walk(tree) for part in ast.iter_child_nodes(node)}
            for node in ast.walk(tree):
                if isinstance(node, ast.Call) and getattr(node.func, "id", None) == "set":
                    self.assertIn(above[node].func.id, ("sorted", "len"), f"{path.name}:{node.lineno}")

    def test_is_with_none_alone(self):
        for at, node in nodes(ast.Compare):
            for operator, right in zip(node.ops, node.comparators):
                if isinstance(operator, (ast.Is, ast.IsNot)):
                    self.assertIsInstance(right, ast.Constant, at)

    def test_strings(self):
        for at, node in nodes(ast.Constant):
            if isinstance(node.value, float):
                self.fail(at)
            if isinstance(node.value, str):
                self.assertNotIn("%", node.value, at)

    def test_no_rings_of_imports(self):
        needs = {}
        for path, tree in files():
            needs[f"wherelaid.{path.stem}"] = [
                part.module for part in tree.body if isinstance(part, ast.ImportFrom)]
        settled = set(LIBRARY)
        while needs:
            ready = [name for name in needs if settled.issuperset(needs[name])]
            self.assertTrue(ready, needs)
            for name in ready:
                settled.add(name)
                del needs[name]


class Walks(unittest.TestCase):

    def rows(self, *rows):
        """The rows that change what a loop around them walks, for a function of these rows."""
        return [row - 2 for row, _ in changed_walks(ast.parse("\n    ".join(["def told(xs):", *rows])))]

    def test_what_a_loop_walks_is_not_changed_in_it(self):
        for path, tree in files():
            self.assertEqual(changed_walks(tree), [], path)

    def test_changes_by_any_name_are_seen(self):
        for row in ("xs.append(x)", "xs[0] = x", "del xs[0]", "xs[1:] = [x]", "xs += [x]", "y = xs.pop()",
                    "(xs if x else ys).append(x)"):
            self.assertEqual(self.rows("for x in xs:", f"    {row}"), [1], row)
        for head in ("enumerate(xs)", "zip(xs, ys)", "reversed(xs)", "xs.items()", "zs or xs", "xs if zs else ys"):
            self.assertEqual(self.rows(f"for x in {head}:", "    xs.pop()"), [1], head)
        for link in ("ys = xs", "xs = ys", "ys = zs = xs", "zs, ys = 1, xs", "ys = zs if n else xs", "ys = zs or xs",
                     "self.rows = xs; ys = self.rows", "zs[0] = xs; ys = zs[1]", "zs = xs; ys = zs"):
            self.assertEqual(self.rows(link, "for x in xs:", "    ys.append(x)"), [2], link)
            self.assertEqual(self.rows("for x in xs:", "    ys.append(x)", link), [1], link)
        self.assertEqual(self.rows("ys = xs", "return [ys.pop() for x in xs]"), [1])
        self.assertEqual(self.rows("for x in self.rows:", "    other.rows.append(x)"), [1])
        self.assertEqual(self.rows(
            "ways = [[]]",
            "for x in xs:",
            "    grown = [[*parts, x] for parts in ways]",
            "    for parts in ways:",
            "        grown.append([x, *parts])",
            "    ways = grown"), [4])

    def test_changes_of_another_thing_may_stand(self):
        for rows in (["for x in list(xs):", "    xs.append(x)"],
                     ["ys = list(xs)", "for x in xs:", "    ys.append(x)"],
                     ["ys = [*xs]", "for x in xs:", "    ys[0] = x"],
                     ["ys = xs[:]", "for x in xs:", "    ys.pop()"],
                     ["for x in xs:", "    x[0] = 1"],
                     ["for k in range(len(xs)):", "    xs[k] = 0"],
                     ["for x in xs:", "    ys.append(x)", "ys.pop()", "xs.append(1)"]):
            self.assertEqual(self.rows(*rows), [], rows)


if __name__ == "__main__":
    unittest.main()
