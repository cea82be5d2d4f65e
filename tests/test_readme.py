"""README.md: its examples do what it says."""

import ast
import pathlib
import re
import unittest

README = pathlib.Path(__file__).resolve().parent.parent / "README.md"
BLOCKS = re.findall(r"```python\n(.*?)```", README.read_text("ascii"), re.DOTALL)
# Behind a value on its line: what it is, then perhaps why.
SHOWN = re.compile(r" +# (True|None|-?[0-9]+|\"[^\"]*\"|\(.*?\))(: .*)?\Z")


class Examples(unittest.TestCase):
    def test_they_run_and_show_what_is_told(self):
        names, many = {}, 0
        for block in BLOCKS:
            lines = block.splitlines()
            for node in ast.parse(block).body:
                text = ast.get_source_segment(block, node)
                shown = SHOWN.match(lines[node.end_lineno - 1][node.end_col_offset:])
                if isinstance(node, ast.Expr) and shown:
                    self.assertEqual(eval(text, names), ast.literal_eval(shown.group(1)), text)
                    many += 1
                else:
                    exec(text, names)
        self.assertGreater(many, 50)


if __name__ == "__main__":
    unittest.main()
