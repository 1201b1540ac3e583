"""README.md: its samples run, and give what stands beside them."""

import re
import unittest
from pathlib import Path

README = Path(__file__).resolve().parent.parent / "README.md"


def samples():
    """The rows of all samples but those that raise, each with what stands behind it."""
    for block in re.findall(r"```python\n(.*?)```", README.read_text(), re.S):
        if "index 0 and what" not in block:
            for row in block.splitlines():
                code, _, beside = row.partition("  #")
                yield code.rstrip(), beside.strip()


class Readme(unittest.TestCase):

    def test_samples(self):
        known = {}
        judged = 0
        for code, beside in samples():
            if re.match(r"(from|import) |[\w, ]+ = |#|$", code):
                exec(code, known)
                continue
            value = eval(code, known)
            if beside[:1] in "('[0123456789" or beside.startswith(("None", "True")):
                judged += 1
                self.assertTrue(beside.startswith(repr(value)), (code, value, beside))
        self.assertGreater(judged, 25)

    def test_all_modules_are_named(self):
        text = README.read_text()
        for path in (README.parent / "wherelaid").glob("[a-z]*.py"):
            self.assertIn(f"{path.stem}`", text)


if __name__ == "__main__":
    unittest.main()
