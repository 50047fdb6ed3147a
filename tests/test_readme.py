"""The examples of README.md."""

import doctest
import pathlib
import unittest

README = pathlib.Path(__file__).resolve().parent.parent / "README.md"


class ReadmeTest(unittest.TestCase):
    def test_examples(self):
        text = README.read_text().replace("```", "")
        test = doctest.DocTestParser().get_doctest(text, {}, "README.md", None, 0)
        told = doctest.DocTestRunner(verbose=False).run(test)
        self.assertGreater(told.attempted, 20)
        self.assertEqual(told.failed, 0)


if __name__ == "__main__":
    unittest.main()
