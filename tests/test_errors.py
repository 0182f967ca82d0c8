"""The errors of the interface: their classes, base class and fields."""

import unittest

from turnfriends import errors
from turnfriends.errors import HallError

WITHOUT_FIELDS = """
    BadHall NoPerson BadRow NotFriends BadLot BadOrder NotText BadRest TooGreat BadLooks BadChoice LeavesOver BadChange
    Unlike NoWay BadNumber BadLook BadWho NoTree BadDance NothingDone NotGrown BadSteps BadPeople NotInRoom
""".split()
FIELDS = {
    "InvalidText": {"place": 17}, "BadPair": {"x": 2, "y": 1}, "Unset": {"name": "a"}, "TooMuch": {"most": 2000},
    "InvalidDesk": {"at": 1},
}


class Errors(unittest.TestCase):
    def test_base(self):
        self.assertEqual(HallError.__bases__, (ValueError,))

    def test_direct_subclasses(self):
        for name in [*WITHOUT_FIELDS, *FIELDS]:
            with self.subTest(name):
                self.assertEqual(getattr(errors, name).__bases__, (HallError,))
                self.assertEqual(getattr(errors, name).__module__, "turnfriends.errors")

    def test_no_others(self):
        names = {told.__name__ for told in HallError.__subclasses__()}
        self.assertEqual(names, {*WITHOUT_FIELDS, *FIELDS})

    def test_without_fields(self):
        for name in WITHOUT_FIELDS:
            with self.subTest(name), self.assertRaises(HallError):
                raise getattr(errors, name)()

    def test_fields(self):
        for name, fields in FIELDS.items():
            with self.subTest(name):
                error = getattr(errors, name)(*fields.values())
                self.assertEqual(vars(error), fields)
                self.assertIsInstance(error, ValueError)
                self.assertIn(str(list(fields.values())[0]), str(error))
