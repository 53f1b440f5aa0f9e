"""The examples of README.md."""

import doctest
import pathlib
import unittest

README = pathlib.Path(__file__).parent.parent / "README.md"


class Readme(unittest.TestCase):
    def test_examples(self):
        test = doctest.DocTestParser().get_doctest(README.read_text(), {}, "README.md", None, None)
        self.assertGreater(len(test.examples), 8)
        self.assertEqual(doctest.DocTestRunner().run(test).failed, 0)
