"""The examples of README.md."""

import doctest
import pathlib
import unittest


class ReadmeTest(unittest.TestCase):
    def test_examples(self):
        readme = pathlib.Path(__file__).parent.parent / "README.md"
        failed, tried = doctest.testfile(str(readme), module_relative=False)
        self.assertEqual(0, failed)
        self.assertGreater(tried, 10)


if __name__ == "__main__":
    unittest.main()
