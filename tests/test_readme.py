"""The calls in README.md, run as they stand there."""

import doctest
import os
import unittest

README = os.path.join(os.path.dirname(os.path.dirname(os.path.abspath(__file__))), "README.md")


class Readme(unittest.TestCase):

    def test_calls(self):
        told = doctest.testfile(README, module_relative=False, encoding="utf-8")
        self.assertEqual(told.failed, 0)
        self.assertGreater(told.attempted, 4)


if __name__ == "__main__":
    unittest.main()
