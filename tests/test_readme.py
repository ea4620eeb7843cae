"""The examples of README.md are what the program answers."""

import re
import unittest
from ast import literal_eval
from pathlib import Path

README = Path(__file__).resolve().parent.parent / "README.md"


class Readme(unittest.TestCase):

    def test_examples(self):
        block = re.search(r"```python\n(.*?)```", README.read_text("ascii"), re.DOTALL).group(1)
        names = {}
        tried = 0
        for line in block.splitlines():
            call, _, told = line.partition("#")
            if not told:
                exec(call, names)
                continue
            target, _, value = call.rpartition(" = ")
            with self.subTest(line):
                answer = eval(value.strip(), names)
                self.assertEqual(answer, literal_eval(told.split(": ")[0].strip()))
                names.update({target: answer} if target else {})
            tried += 1
        self.assertGreater(tried, 20)


if __name__ == "__main__":
    unittest.main()
