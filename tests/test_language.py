import os
import re
import unittest

from tests.language import Finder

TOP = os.path.dirname(os.path.dirname(os.path.abspath(__file__)))
PACKAGE = os.path.join(TOP, "unsaidsizes")


class TestLanguage(unittest.TestCase):
    def test_files(self):
        self.assertEqual(Finder(PACKAGE).find(), [])

    def test_words(self):
        finder = Finder(PACKAGE)
        for file in finder.files:
            code = re.sub(r'"""(.|\n)*?"""|#[^\n]*', "", file.text)
            self.assertIsNone(re.search(r"\b(typ" + r"e|enum|dataclass|overload|contextmanager|law)\b", re.sub('"[^"]*"', "", code)),
                              file.path)
            self.assertNotIn("_wall", file.text)


if __name__ == "__main__":
    unittest.main()
