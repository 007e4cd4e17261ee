"""What README.md shows is run, and where a plain value stands behind a row it is held against what the row tells."""

import ast
import pathlib
import re
import unittest

README = pathlib.Path(__file__).resolve().parent.parent / "README.md"


def shown_value(remark):
    """The plain value that a remark begins with, in a list of one; the empty list where there is none."""
    for end in ["", ";", ":", ","]:
        try:
            return [ast.literal_eval(remark.split(end)[0] if end else remark)]
        except (SyntaxError, ValueError):
            continue
    return []


class Readme(unittest.TestCase):
    def test_what_is_shown(self):
        names = {}
        held = 0
        for block in re.findall(r"```python\n(.*?)```", README.read_text(encoding="utf-8"), re.DOTALL):
            for part in ast.parse(block).body:
                source = ast.get_source_segment(block, part)
                remark = block.splitlines()[part.end_lineno - 1][part.end_col_offset:].strip().lstrip("# ")
                if not isinstance(part, ast.Expr):
                    exec(source, names)
                    continue
                told = eval(source, names)
                for value in shown_value(remark):
                    self.assertEqual(told, value, source)
                    held += 1
        self.assertGreater(held, 20)


if __name__ == "__main__":
    unittest.main()
