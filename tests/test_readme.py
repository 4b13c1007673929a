"""The examples of README.md."""

import doctest
import pathlib
import unittest

README = pathlib.Path(__file__).resolve().parent.parent / "README.md"


class ReadmeTest(unittest.TestCase):

    def test_the_examples(self):
        text = "\n".join(line for line in README.read_text(encoding="utf-8").split("\n") if not line.startswith("```"))
        test = doctest.DocTestParser().get_doctest(text, {}, "README", "README.md", 0)
        self.assertGreater(len(test.examples), 10)
        failures = []
        doctest.DocTestRunner(verbose=False).run(test, out=failures.append)
        self.assertEqual("".join(failures), "")


if __name__ == "__main__":
    unittest.main()
