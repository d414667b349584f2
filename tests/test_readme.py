"""What README.md shows holds."""

import pathlib
import re
import unittest

README = pathlib.Path(__file__).resolve().parent.parent / "README.md"


class Readme(unittest.TestCase):
    def test_its_code(self):
        pieces = re.findall(r"```python\n(.*?)```", README.read_text(encoding="utf-8"), re.S)
        self.assertGreaterEqual(len(pieces), 2)
        for piece in pieces:
            exec(piece, {})


if __name__ == "__main__":
    unittest.main()
