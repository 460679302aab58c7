"""README.md: what it says of using the program is so, and it says how to run the tests."""

import pathlib
import re
import unittest

README = pathlib.Path(__file__).resolve().parent.parent / "README.md"


class Readme(unittest.TestCase):
    def test_its_code_runs_and_comes_to_what_it_says(self):
        known, compared = {}, 0
        for block in re.findall(r"```python\n(.*?)```", README.read_text(), re.DOTALL):
            for line in block.splitlines():
                code, _, said = line.partition("# ")
                if said.startswith(("'", "[", "True", "(")):
                    compared += 1
                    # Behind what comes a remark may stand.
                    self.assertIn(repr(eval(code, known)), (said.strip(), said.split(";")[0].strip()))
                else:
                    exec(code, known)
        self.assertGreater(compared, 5)

    def test_it_says_how_to_run_the_tests(self):
        self.assertIn(".ci/run", README.read_text())
        self.assertIn("python3 -m unittest discover -s tests -t .", README.read_text())


if __name__ == "__main__":
    unittest.main()
