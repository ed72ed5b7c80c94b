"""That what README.md shows is what the program tells."""

import pathlib
import re
import unittest

README = pathlib.Path(__file__).resolve().parent.parent / "README.md"


class Readme(unittest.TestCase):

    def test_each_row_tells_what_stands_behind_it(self):
        code = re.findall(r"```python\n(.*?)```", README.read_text(encoding="utf-8"), re.S)[0]
        names = {}
        checked = 0
        for part in re.split(r"\n(?=[^ \])}])", code):
            asked, sign, due = part.partition("  # ")
            if sign:
                checked += 1
                self.assertEqual(eval(asked, names), eval(due, names), asked)
            else:
                exec(part, names)
        self.assertEqual(checked, 24)


if __name__ == "__main__":
    unittest.main()
