"""The examples of README.md: behind the sign of a comment stands what is told."""

import re
import unittest
from pathlib import Path

README = Path(__file__).resolve().parent.parent / "README.md"


class Examples(unittest.TestCase):
    def test_examples(self):
        blocks = re.findall(r"```python\n(.*?)```", README.read_text(), re.S)
        self.assertEqual(len(blocks), 7)
        for block in blocks:
            names = {}
            for row in block.splitlines():
                call, sign, told = row.partition("  #")
                if sign:
                    self.assertEqual(eval(call, names), eval(told.strip(), names), row)
                else:
                    exec(row, names)
