"""Runs the examples of README.md."""

import doctest
import unittest


class ReadmeTest(unittest.TestCase):

    def test_examples(self):
        failed, many = doctest.testfile("../README.md", package="tests")
        self.assertEqual(failed, 0)
        self.assertGreater(many, 10)


if __name__ == "__main__":
    unittest.main()
