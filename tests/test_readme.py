"""The lines that README.md shows."""

import doctest
import pathlib
import unittest

README = pathlib.Path(__file__).resolve().parent.parent / "README.md"


class ReadmeTest(unittest.TestCase):
    def test_the_lines_of_the_readme_hold(self):
        # A fence would be taken for a part of the answer above it.
        text = README.read_text().replace("```", "")
        case = doctest.DocTestParser().get_doctest(text, {}, "README.md", "README.md", 0)
        said = []
        failed, tried = doctest.DocTestRunner(verbose=False).run(case, out=said.append)
        self.assertEqual(failed, 0, "".join(said))
        self.assertGreater(tried, 10)


if __name__ == "__main__":
    unittest.main()
