"""The examples in README.md print what they say."""

import contextlib
import io
import os
import re
import unittest

README = os.path.join(os.path.dirname(os.path.dirname(os.path.abspath(__file__))), "README.md")


def blocks():
    with open(README, encoding="utf-8") as file:
        return re.findall(r"```python\n(.*?)```", file.read(), re.DOTALL)


class Examples(unittest.TestCase):
    def test_each_print_with_a_comment_prints_it(self):
        for block in blocks():
            printed = io.StringIO()
            with contextlib.redirect_stdout(printed):
                exec(block, {})
            told = re.findall(r"^print\(.*\)  # (.*)$", block, re.MULTILINE)
            self.assertGreater(len(told), 3)
            for line in told:
                self.assertIn(line.split(": ")[0], printed.getvalue().split("\n"))


if __name__ == "__main__":
    unittest.main()
