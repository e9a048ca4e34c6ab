"""The examples of README.md."""

import doctest
import unittest
from pathlib import Path

README = Path(__file__).resolve().parent.parent / "README.md"


class ReadmeTest(unittest.TestCase):
    def test_examples(self):
        # The names of the errors are checked, not their texts.
        found = doctest.testfile(str(README), module_relative=False, optionflags=doctest.IGNORE_EXCEPTION_DETAIL)
        self.assertGreater(found.attempted, 0)
        self.assertEqual(found.failed, 0)


if __name__ == "__main__":
    unittest.main()
