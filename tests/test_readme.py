"""The examples of README.md."""

import doctest
import pathlib
import unittest

README = pathlib.Path(__file__).resolve().parent.parent / "README.md"


class ReadmeTest(unittest.TestCase):
    def test_examples(self):
        # The marks around the examples would be taken for answers.
        text = README.read_text(encoding="utf-8").replace("```", "")
        examples = doctest.DocTestParser().get_doctest(text, {}, "README.md", str(README), 0)
        found = doctest.DocTestRunner().run(examples)
        self.assertEqual(found.failed, 0)
        self.assertGreater(found.attempted, 10)


if __name__ == "__main__":
    unittest.main()
