"""README.md: its examples, and the modules that it tells of."""

import doctest
import unittest
from pathlib import Path

from tests.test_interface import INTERFACE

README = Path(__file__).resolve().parent.parent / "README.md"


class Readme(unittest.TestCase):
    def test_examples(self):
        # A line of back ticks ends an example; doctest would take it for a part of the answer.
        text = README.read_text().replace("```", "")
        test = doctest.DocTestParser().get_doctest(text, {}, "README", str(README), 0)
        self.assertGreater(len(test.examples), 5)
        self.assertEqual(doctest.DocTestRunner(verbose=False).run(test).failed, 0)

    def test_it_tells_of_all_modules(self):
        text = README.read_text()
        for path in (README.parent / "anychain").glob("*.py"):
            if path.stem in INTERFACE or path.stem == "errors":
                self.assertIn("| `anychain." + path.stem + "` |", text)
            elif path.stem != "__init__":
                self.assertIn("`" + path.stem + "`", text)


if __name__ == "__main__":
    unittest.main()
