"""README.md: its samples run, and give what stands beside them."""

import ast
import re
import unittest
from pathlib import Path

README = Path(__file__).resolve().parent.parent / "README.md"


def samples():
    """Couples (code, what stands behind it) of the statements of all samples but one that raises."""
    for block in re.findall(r"```python\n(.*?)```", README.read_text(), re.S):
        if "index 0 and what" not in block:
            rows = block.splitlines()
            for node in ast.parse(block).body:
                code = "\n".join(rows[node.lineno - 1:node.end_lineno])
                yield code, rows[node.end_lineno - 1].partition("  #")[2].strip()


class Readme(unittest.TestCase):

    def test_samples(self):
        known = {}
        judged = 0
        for code, beside in samples():
            if not isinstance(ast.parse(code).body[0], ast.Expr):
                exec(code, known)
                continue
            value = eval(code, known)
            if beside[:1] in "('[0123456789" or beside.startswith(("None", "True")):
                judged += 1
                self.assertTrue(beside.startswith(repr(value)), (code, value, beside))
        self.assertGreater(judged, 40)

    def test_all_modules_are_named(self):
        text = README.read_text()
        for path in (README.parent / "wherelaid").glob("[a-z]*.py"):
            self.assertIn(f"{path.stem}`", text)


if __name__ == "__main__":
    unittest.main()
