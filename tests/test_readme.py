"""The examples in README.md give what stands there."""

import doctest
import unittest
from pathlib import Path


class ReadmeTest(unittest.TestCase):

    def test_examples(self):
        readme = Path(__file__).resolve().parent.parent / "README.md"
        failed, tried = doctest.testfile(str(readme), module_relative=False)
        self.assertEqual(failed, 0)
        self.assertGreater(tried, 15)


if __name__ == "__main__":
    unittest.main()
