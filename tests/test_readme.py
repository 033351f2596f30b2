"""Tests that the examples of README.md answer what it says they do."""

import ast
import pathlib
import re
import unittest

from roomstays import hours

README = pathlib.Path(hours.__file__).parent.parent / "README.md"
EXAMPLE = re.compile(r"^    (\w+)(\(.*\)) +# (\[[^\]]*\])", re.MULTILINE)


class Examples(unittest.TestCase):
    def test_each_answers_what_it_says(self):
        examples = EXAMPLE.findall(README.read_text())
        self.assertEqual({name for name, given, answer in examples},
                         {"letin", "allowed", "peak", "lockers", "places"})
        for name, given, answer in examples:
            values = ast.literal_eval(given[:-1] + ",)")
            self.assertEqual(getattr(hours, name)(*values), ast.literal_eval(answer), name + given)


if __name__ == "__main__":
    unittest.main()
