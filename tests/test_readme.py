"""That what README.md shows is what the program tells."""

import pathlib
import re
import unittest

README = pathlib.Path(__file__).resolve().parent.parent / "README.md"


class Readme(unittest.TestCase):

    def test_each_row_tells_what_stands_behind_it(self):
        code = re.findall(r"```python\n(.*?)```", README.read_text(encoding="utf-8"), re.S)[0]
        names = {}
        exec(code, names)
        rows = re.findall(r"^(\w.*\)) +# (.*)$", code, re.M)
        self.assertEqual(len(rows), 8)
        for asked, due in rows:
            self.assertEqual(eval(asked, names), eval(due), asked)


if __name__ == "__main__":
    unittest.main()
