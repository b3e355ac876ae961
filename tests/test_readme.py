"""The example of README.md tells what the program returns."""

import ast
import pathlib
import unittest

README = pathlib.Path(__file__).resolve().parent.parent / "README.md"


class ReadmeTest(unittest.TestCase):

    def test_example(self):
        code = README.read_text(encoding="utf-8").split("```python\n")[1].split("```")[0]
        names = {}
        exec(code, names)
        lines = [line.split("#") for line in code.splitlines() if "#" in line]
        self.assertEqual(len(lines), 11)
        for line, told in lines:
            self.assertEqual(eval(line, names), ast.literal_eval(told.strip()), line)
