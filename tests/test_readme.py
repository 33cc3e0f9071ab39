import doctest
import os
import unittest

TOP = os.path.dirname(os.path.dirname(os.path.abspath(__file__)))


class TestReadme(unittest.TestCase):
    def test_examples(self):
        told = doctest.testfile(os.path.join(TOP, "README.md"), module_relative=False)
        self.assertEqual(told.failed, 0)
        self.assertGreater(told.attempted, 5)


if __name__ == "__main__":
    unittest.main()
