"""The examples in README.md."""

import doctest
import pathlib
import unittest


class Readme(unittest.TestCase):

    def test_the_examples_hold(self):
        path = pathlib.Path(__file__).resolve().parent.parent / "README.md"
        failures, tried = doctest.testfile(str(path), module_relative=False)
        self.assertEqual(failures, 0)
        self.assertGreater(tried, 0)


if __name__ == "__main__":
    unittest.main()
