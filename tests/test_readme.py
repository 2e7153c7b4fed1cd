import os
import re
import unittest

from helper import run_examples

README = os.path.join(os.path.dirname(os.path.dirname(os.path.abspath(__file__))), "README.md")


class Readme(unittest.TestCase):
    def test_examples(self):
        with open(README, encoding="utf-8") as held:
            blocks = re.findall(r"```python\n(.*?)```", held.read(), re.DOTALL)
        self.assertGreater(len(blocks), 2)
        for block in blocks:
            run_examples(self, block)
