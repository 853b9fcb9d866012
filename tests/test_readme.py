import doctest
import pathlib
import unittest

README = pathlib.Path(__file__).resolve().parent.parent / "README.md"


class ReadmeTest(unittest.TestCase):
    def test_examples(self):
        # An error's own words are free, so they are not compared.
        outcome = doctest.testfile(
            str(README), module_relative=False, encoding="utf-8", optionflags=doctest.IGNORE_EXCEPTION_DETAIL
        )
        self.assertGreater(outcome.attempted, 0)
        self.assertEqual(outcome.failed, 0)


if __name__ == "__main__":
    unittest.main()
