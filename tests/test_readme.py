"""README.md: its examples do what it says."""

import ast
import pathlib
import re
import unittest

README = pathlib.Path(__file__).resolve().parent.parent / "README.md"
BLOCKS = re.findall(r"```python\n(.*?)```", README.read_text("ascii"), re.DOTALL)
# A line that is a value, then what it is, then perhaps why.
SHOWN = re.compile(r"( *)(\S.*?) +# (True|None|-?[0-9]+|\"[a-z]+\"|\(.*?\))(: .*)?\Z")


def shown_in(block):
    """Each value that is shown in a block, as its text and what it is told to be."""
    found = [SHOWN.match(line) for line in block.splitlines()]
    return [(match.group(2), ast.literal_eval(match.group(3))) for match in found if match]


class Examples(unittest.TestCase):
    def test_they_run_and_show_what_is_told(self):
        names, many = {}, 0
        for block in BLOCKS:
            exec(block, names)
            for text, value in shown_in(block):
                # What stands behind an assignment is a remark; an error is gone behind its handler.
                if not re.match(r"\w+(, \w+)* = |error\.", text):
                    self.assertEqual(eval(text, names), value, text)
                    many += 1
        self.assertGreater(many, 15)


if __name__ == "__main__":
    unittest.main()
