"""What README.md shows, and which files it tells of."""

import doctest
import unittest
from pathlib import Path

README = Path(__file__).resolve().parent.parent / "README.md"


class Readme(unittest.TestCase):
    def test_what_it_shows(self):
        failed, tried = doctest.testfile(str(README), module_relative=False)
        self.assertEqual(failed, 0)
        self.assertGreater(tried, 5)

    def test_it_tells_of_each_file(self):
        told = README.read_text()
        for path in (README.parent / "wetfolds").glob("[a-z]*.py"):
            self.assertIn(f"`wetfolds.{path.stem}`", told)


if __name__ == "__main__":
    unittest.main()
