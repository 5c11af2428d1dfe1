"""The examples in README.md."""

import doctest
import pathlib
import unittest

README = pathlib.Path(__file__).resolve().parent.parent / "README.md"


class Examples(unittest.TestCase):
    def test_they_print_what_they_show(self):
        # A line of three backticks would be read as a part of what is printed.
        text = README.read_text().replace("```", "")
        example = doctest.DocTestParser().get_doctest(text, {}, "README.md", str(README), 0)
        self.assertTrue(len(example.examples) > 30)
        told = []
        doctest.DocTestRunner().run(example, out=told.append)
        self.assertEqual("".join(told), "")


if __name__ == "__main__":
    unittest.main()
