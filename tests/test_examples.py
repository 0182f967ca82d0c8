"""The examples of the interface, word for word: one file of tests/examples for each module."""

import doctest
import pathlib
import unittest

EXAMPLES = pathlib.Path(__file__).parent / "examples"
README = pathlib.Path(__file__).parent.parent / "README.md"


class Examples(unittest.TestCase):
    def hold(self, name, lines):
        failed, tried = doctest.testfile(str(EXAMPLES / name), module_relative=False, encoding="utf-8")
        self.assertEqual((failed, tried), (0, lines))

    def test_halls(self):
        self.hold("halls.txt", 4)

    def test_printing(self):
        self.hold("printing.txt", 3)

    def test_running(self):
        self.hold("running.txt", 2)

    def test_looks(self):
        self.hold("looks.txt", 4)

    def test_choosing(self):
        self.hold("choosing.txt", 4)

    def test_naming(self):
        self.hold("naming.txt", 3)

    def test_leading(self):
        self.hold("leading.txt", 3)

    def test_classes(self):
        self.hold("classes.txt", 4)

    def test_leaving(self):
        self.hold("leaving.txt", 4)

    def test_trees(self):
        self.hold("trees.txt", 2)

    def test_dances(self):
        self.hold("dances.txt", 3)

    def test_sums(self):
        self.hold("sums.txt", 2)

    def test_desks(self):
        self.hold("desks.txt", 6)

    def test_growing(self):
        self.hold("growing.txt", 4)

    def test_widths(self):
        self.hold("widths.txt", 3)

    def test_listing(self):
        self.hold("listing.txt", 2)

    def test_asking(self):
        self.hold("asking.txt", 4)

    def test_readme(self):
        text = README.read_text(encoding="utf-8").replace("```", "")
        test = doctest.DocTestParser().get_doctest(text, {}, "README.md", "README.md", 0)
        self.assertGreater(len(test.examples), 10)
        self.assertEqual(doctest.DocTestRunner().run(test).failed, 0)
