"""What README.md shows runs as it stands there."""

import pathlib
import re
import unittest

README = pathlib.Path(__file__).resolve().parent.parent / "README.md"


class Readme(unittest.TestCase):
    def test_its_examples(self):
        blocks = re.findall(r"```python\n(.*?)```", README.read_text(encoding="utf-8"), re.DOTALL)
        self.assertTrue(blocks)
        exec(compile("\n".join(blocks), str(README), "exec"), {})


if __name__ == "__main__":
    unittest.main()
