"""The examples of README.md."""

import doctest
import pathlib
import unittest

README = pathlib.Path(__file__).resolve().parent.parent / "README.md"


class ReadmeTest(unittest.TestCase):

    def test_examples(self):
        failed, many = doctest.testfile(str(README), module_relative=False)
        self.assertEqual(failed, 0)
        self.assertGreater(many, 5)


if __name__ == "__main__":
    unittest.main()
