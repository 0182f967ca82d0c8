"""The examples of the interface, word for word: one file of tests/examples for each module."""

import doctest
import pathlib
import unittest

EXAMPLES = pathlib.Path(__file__).parent / "examples"


class Examples(unittest.TestCase):
    def hold(self, name, lines):
        failed, tried = doctest.testfile(str(EXAMPLES / name), module_relative=False, encoding="utf-8")
        self.assertEqual((failed, tried), (0, lines))

    def test_halls(self):
        self.hold("halls.txt", 4)

    def test_printing(self):
        self.hold("printing.txt", 3)
