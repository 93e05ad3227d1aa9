"""README.md: what it shows can be done just so."""

import contextlib
import io
import pathlib
import re
import unittest

README = pathlib.Path(__file__).resolve().parent.parent / "README.md"


class Readme(unittest.TestCase):
    def test_the_example_runs(self):
        examples = re.findall(r"```python\n(.*?)```", README.read_text(), re.DOTALL)
        self.assertEqual(len(examples), 3)
        printed = io.StringIO()
        with contextlib.redirect_stdout(printed):
            exec("".join(examples), {})
        lines = printed.getvalue().splitlines()
        lines, last = lines[:-5], lines[-5:]
        self.assertEqual(lines[-5], "ada 10 1 here; ben 100 1 here; cy 200 1 here")
        known = [("ada", 10, 1, "here"), ("ben", 100, 1, "silent"), ("cy", 200, 1, "here")]
        self.assertEqual(lines[-4], f"2 {known} ada 10, cy 200")
        told = (["cy", "ada"], [], [])
        self.assertEqual(lines[-3:], ["['ada', 'cy'] True", f"True {told}", "blue moon over"])
        self.assertEqual(last[0], "True 105 [('ada', 256), ('cy', 256)]")
        letters = ["1 ben cy ben 1 1 =who has it?", "2 ben ada ben 1 1 =who has it?"]
        self.assertEqual(last[1], f"{['ben 1 1 =who has it?']} {letters} {['=blue moon over']}")
        self.assertEqual(last[2:], ["True", "3", "['come', 'come']"])

    def test_each_file_of_the_package_is_named(self):
        text = README.read_text()
        for path in (README.parent / "peersmeet").glob("*.py"):
            if path.name != "__init__.py":
                self.assertIn(f"`peersmeet/{path.name}`", text)


if __name__ == "__main__":
    unittest.main()
