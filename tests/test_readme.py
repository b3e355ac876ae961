"""The example of README.md tells what the program returns."""

import ast
import pathlib
import unittest

README = pathlib.Path(__file__).resolve().parent.parent / "README.md"


class ReadmeTest(unittest.TestCase):

    def test_example(self):
        blocks = [part.split("```")[0] for part in README.read_text(encoding="utf-8").split("```python\n")[1:]]
        self.assertEqual(len(blocks), 4)
        names = {}
        told = 0
        for line in "".join(blocks).splitlines():
            code, _, answer = line.partition("#")
            if answer:
                self.assertEqual(eval(code, names), ast.literal_eval(answer.strip()), line)
                told += 1
            else:
                exec(code, names)
        self.assertEqual(told, 34)
