"""The examples of README.md."""

import doctest
import pathlib
import unittest


class ReadmeTest(unittest.TestCase):
    def test_examples(self):
        path = pathlib.Path(__file__).resolve().parent.parent / "README.md"
        self.assertEqual(doctest.testfile(str(path), module_relative=False).failed, 0)


if __name__ == "__main__":
    unittest.main()
