import doctest
import pathlib
import unittest

README = pathlib.Path(__file__).resolve().parent.parent / "README.md"


class TestReadme(unittest.TestCase):

    def test_its_examples_and_its_list_of_modules(self):
        text = README.read_text("utf-8")
        examples = doctest.DocTestParser().get_doctest(text.replace("```", "\n"), {}, "README", None, 0)
        self.assertGreater(len(examples.examples), 40)
        self.assertEqual(doctest.DocTestRunner(verbose=False).run(examples).failed, 0)
        for path in (README.parent / "doubtborne").glob("*.py"):
            if path.stem != "__init__":
                self.assertIn("| `doubtborne.{}` |".format(path.stem), text)


if __name__ == "__main__":
    unittest.main()
