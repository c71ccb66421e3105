"""The examples of README.md answer what stands below them."""
import doctest
import os
import unittest


class Readme(unittest.TestCase):
    def test_examples(self):
        path = os.path.join(os.path.dirname(os.path.dirname(os.path.abspath(__file__))), "README.md")
        failed, tried = doctest.testfile(path, module_relative=False)
        self.assertEqual(failed, 0)
        self.assertGreater(tried, 5)
