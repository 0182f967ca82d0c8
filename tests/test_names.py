"""No name of the package is one that rule L12 of its language keeps for itself."""

import re
import unittest

from tests.sources import PACKAGE, files, names_in

NAMES = ("_cold", "_tuplegetter", "_outside", "_record", "_written_out", "_member_names")
WALL = "_wall"
BEGINNINGS = ("_pe_", "_dcw_", "_enum_", "_cm_", "_twin_re_", "_lay_", "_law_", "_stub_", "_sre", "_WallAttr")
# These two stand nowhere in a file, comments and strings included.
WORDS = re.compile(r"\b(_wall|_WallAttr)\b")
# A name can stand at each of these places of a text; the one in the last row of each is the one looked for.
PLACES = """
NAME = 1
print(NAME)
NAME: int = 1
x: NAME = 1
x = y = NAME
def NAME(): return 1
class NAME: x = 1
class A(NAME): x = 1
class A: NAME = 1
import NAME
import NAME.x
import x as NAME
from NAME import x
from turnfriends.NAME import x
from turnfriends.halls import NAME
from turnfriends.halls import x as NAME
def f(NAME): return 1
def f(NAME, /): return 1
def f(*, NAME): return 1
def f(*NAME): return 1
def f(**NAME): return 1
def f(x=NAME): return 1
def f(x: NAME): return 1
def f() -> NAME: return 1
f(NAME=1)
f(lambda NAME: 1)
f(f"{NAME}")
f(f"{1:>{NAME}}")
del NAME
for x, (y, *NAME) in z: pass
while NAME: pass
f([1 for NAME in z])
f({1: 2 for x in z if NAME})
f((NAME := 1))
f(x[NAME])
with x as NAME: pass
raise NAME
def f(): nonlocal NAME
def f(): yield NAME
""".strip().split("\n")
BLOCKS = (
    "try:\n    f()\nexcept ValueError as NAME:\n    pass",
    "try:\n    f()\nexcept NAME:\n    pass",
    "match x:\n    case NAME:\n        pass",
    "match x:\n    case [1, *NAME]:\n        pass",
    "match x:\n    case [1] as NAME:\n        pass",
    "match x:\n    case NAME():\n        pass",
    "def f():\n    def NAME():\n        return 1",
    "class A:\n    def f(self, NAME):\n        return 1",
    "class A:\n    def f(self):\n        def NAME():\n            return 1",
)
MEMBERS = (
    "x.NAME",
    "x.NAME = 1",
    "x.NAME()",
    "x.y.NAME += 1",
    "f(f'{x.NAME}')",
    "class A:\n    def NAME(self):\n        return 1",
    "class A:\n    @property\n    def NAME(self):\n        return 1",
    "class A:\n    __slots__ = ('x', 'NAME')",
    "match x:\n    case A(n=1, NAME=y):\n        pass",
    "getattr(x, 'NAME', 0)",
    "hasattr(x, 'NAME')",
    "setattr(x, 'NAME', 1)",
)


def is_kept(name, member):
    """Whether L12 keeps a name for itself; member: it is that of an attribute or a method."""
    if re.fullmatch("(" + "|".join(NAMES) + ")[0-9_]*", name) or name.startswith(BEGINNINGS):
        return True
    return name.startswith(WALL) and not member


def kept_in(text):
    """The kept names of a text, each with its row, in their order."""
    words = [(text.count("\n", 0, found.start()) + 1, found.group()) for found in WORDS.finditer(text)]
    names = [(row, name) for row, name, member in names_in(text) if is_kept(name, member)]
    return sorted({*words, *names})


def variants(name):
    """A name, and it with digits and underscores behind it."""
    return [name + end for end in ("", "2", "_", "__", "_10", "3_")]


def kept_names():
    """Names that L12 keeps at each place, but for those that begin with _wall."""
    whole = [told for name in NAMES for told in variants(name)]
    return whole + [name + end for name in BEGINNINGS for end in ("", "x", "Row", "_2")]


class KeptNames(unittest.TestCase):
    def test_none_in_the_package(self):
        self.assertTrue(files())
        for path in files():
            with self.subTest(path.name):
                self.assertEqual(kept_in(path.read_text(encoding="utf-8")), [])

    def test_no_file_is_called_so(self):
        for path in [PACKAGE, *PACKAGE.rglob("*")]:
            self.assertFalse(is_kept(path.stem, False), path)

    def test_plain_names_of_the_package_are_seen(self):
        told = {name for path in files() for _, name, _ in names_in(path.read_text(encoding="utf-8"))}
        self.assertLessEqual({"turnfriends", "narrow_order", "_widths_from", "Desk", "undo", "masks", "HallError"}, told)


class Finding(unittest.TestCase):
    """The search itself finds the names at all places, so that its silence tells something."""

    def found(self, text, name):
        rows = {row for row, line in enumerate(text.split("\n"), 1) if "NAME" in line}
        return kept_in(text.replace("NAME", name)), [(row, name) for row in sorted(rows)]

    def test_each_place(self):
        for text in [*PLACES, *BLOCKS, *MEMBERS]:
            for name in ("_outside", "_enum_x"):
                with self.subTest(text, name=name):
                    self.assertEqual(*self.found(text, name))

    def test_each_name(self):
        for name in kept_names():
            for text in ("x = 1\nNAME = 2", "def NAME():\n    return 1", "x.NAME = 1"):
                with self.subTest(text, name=name):
                    self.assertEqual(*self.found(text, name))

    def test_row_of_each(self):
        text = "def f():\n    return _outside2()\n\n\ndef _outside2():\n    return _record.x"
        self.assertEqual(kept_in(text), [(2, "_outside2"), (5, "_outside2"), (6, "_record")])

    def test_wall_is_kept_but_for_attributes_and_methods(self):
        for text in [*PLACES, *BLOCKS]:
            with self.subTest(text):
                self.assertEqual(*self.found(text, "_walls"))
        for text in MEMBERS:
            with self.subTest(text):
                self.assertEqual(kept_in(text.replace("NAME", "_walls")), [])

    def test_words_that_stand_nowhere(self):
        for word in ("_wall", "_WallAttr"):
            for text in ("# a NAME here", "x = 'the NAME.'", "def f():\n    '''NAME'''", "x.NAME()", "x = 'aNAME NAME'"):
                with self.subTest(text, word=word):
                    self.assertEqual(*self.found(text.replace("aNAME", "a"), word))
            for text in ("# aNAME", "x = 'NAMEs'", "# NAME2"):
                self.assertEqual(kept_in(text.replace("NAME", word)), [])

    def test_others_are_free(self):
        free = """
            outside _people_outside _outsider _outside_of _outsides _colder _colds _recorded _records _record_of _x_record
            _tuplegetters _written _written_outs _member _member_name _pe _people _dcw _enum _enumerated _cm _twin _twin_re
            _lay _layer _law _laws _stub _stubs _sr _wal _Wall a_wall a_sre_x cold record
        """.split()
        for name in free:
            for text in [*PLACES, *BLOCKS, *MEMBERS]:
                self.assertEqual(kept_in(text.replace("NAME", name)), [], name)

    def test_strings_and_comments_name_nothing(self):
        for name in kept_names():
            if name not in ("_WallAttr",):
                self.assertEqual(kept_in(f"# {name}\nx = '{name}'\ny = ['{name}', 1]"), [])
