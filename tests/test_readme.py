import doctest
import pathlib
import unittest

README = pathlib.Path(__file__).resolve().parent.parent / "README.md"


class Readme(unittest.TestCase):
    def test_the_examples_hold(self):
        # The closing fence of a code block would be taken for output.
        text = README.read_text(encoding="utf-8").replace("```", "")
        test = doctest.DocTestParser().get_doctest(text, {}, "README.md", None, 0)
        results = doctest.DocTestRunner().run(test)
        self.assertEqual(results.failed, 0)
        self.assertTrue(results.attempted)


if __name__ == "__main__":
    unittest.main()
