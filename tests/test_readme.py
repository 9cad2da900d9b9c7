"""What README.md shows is what the program does."""

import contextlib
import io
import pathlib
import re
import unittest

README = pathlib.Path(__file__).resolve().parent.parent / "README.md"


class ReadmeTest(unittest.TestCase):
    def test_the_examples_print_what_stands_behind_them(self):
        source = "\n".join(re.findall(r"```python\n(.*?)```", README.read_text(), re.DOTALL))
        promised = re.findall(r"print\(.*\) +# (.*)", source)
        told = io.StringIO()
        with contextlib.redirect_stdout(told):
            exec(compile(source, "README.md", "exec"), {})
        self.assertTrue(promised)
        self.assertEqual(told.getvalue().splitlines(), promised)
