"""The examples of README.md."""

import doctest
import unittest
from pathlib import Path

README = Path(__file__).resolve().parent.parent / "README.md"


class Readme(unittest.TestCase):
    def test_examples(self):
        # A line of back ticks ends an example; doctest would take it for a part of the answer.
        text = README.read_text().replace("```", "")
        test = doctest.DocTestParser().get_doctest(text, {}, "README", str(README), 0)
        self.assertGreater(len(test.examples), 5)
        self.assertEqual(doctest.DocTestRunner(verbose=False).run(test).failed, 0)


if __name__ == "__main__":
    unittest.main()
