"""Promise [8]: rows of looks, their sums and odd meetings, own rows and rooms."""

import itertools
import random
import unittest

from tests import roads
from tests.hands import halls, some_halls
from turnfriends.looks import added, is_in_room, meet_oddly, own_row, room

TRIPLE = (3, ((0, 1), (1, 2)))


def some_rows(n, many):
    chance = random.Random(n)
    rows = ["." * n, "X" * n, "Y" * n, "Z" * n]
    return rows + ["".join(chance.choice(".XYZ") for _ in range(n)) for _ in range(many)]


class Sums(unittest.TestCase):
    def test_each_two_looks(self):
        table = {".": ".XYZ", "X": "X.ZY", "Y": "YZ.X", "Z": "ZYX."}
        for one, told in table.items():
            for other, both in zip(".XYZ", told):
                self.assertEqual(added(one, other), both)

    def test_all_short_rows(self):
        for n in range(1, 4):
            for one, other in itertools.product(roads.rows_of_looks(n), repeat=2):
                self.assertEqual(added(one, other), roads.added(one, other))

    def test_rows_of_up_to_eight(self):
        for n in range(1, 9):
            for one, other in itertools.product(some_rows(n, 12), repeat=2):
                self.assertEqual(added(one, other), roads.added(one, other))
                self.assertEqual(added(one, other), added(other, one))

    def test_nothing(self):
        for n in range(1, 9):
            for row in some_rows(n, 12):
                self.assertEqual(added(row, "." * n), row)
                self.assertEqual(added("." * n, row), row)
                self.assertEqual(added(row, row), "." * n)

    def test_by_hand(self):
        self.assertEqual(added("XYZ.XYZ.", "ZZZXXX.."), "YX.X.ZZ.")
        self.assertEqual(added("XXYYZZ.X", "YZXZXY.."), "ZYZXYX.X")


class Meetings(unittest.TestCase):
    def test_each_two_looks(self):
        for one, other in itertools.product(".XYZ", repeat=2):
            self.assertIs(meet_oddly(one, other), one != other and "." not in one + other)

    def test_rows_of_up_to_eight(self):
        for n in range(1, 9):
            for one, other in itertools.product(some_rows(n, 15), repeat=2):
                self.assertIs(meet_oddly(one, other), roads.meet_oddly(one, other))
                self.assertIs(meet_oddly(other, one), meet_oddly(one, other))

    def test_all_short_rows(self):
        for n in (2, 3):
            for one, other in itertools.product(roads.rows_of_looks(n), repeat=2):
                self.assertIs(meet_oddly(one, other), roads.meet_oddly(one, other))

    def test_nothing_meets_nothing(self):
        for n in range(1, 9):
            for row in some_rows(n, 12):
                self.assertIs(meet_oddly(row, "." * n), False)
                self.assertIs(meet_oddly(row, row), False)

    def test_by_hand(self):
        self.assertIs(meet_oddly("XX", "ZZ"), False)
        self.assertIs(meet_oddly("XXX", "ZZZ"), True)
        self.assertIs(meet_oddly("XYZ.XYZ.", "YZX....X"), True)
        self.assertIs(meet_oddly("XYZ.XYZ.", "YZX.ZYZX"), False)


class Rooms(unittest.TestCase):
    def test_own_rows(self):
        for hall in halls():
            for x in range(hall[0]):
                self.assertEqual(own_row(hall, x), roads.own_row(hall, x))

    def test_own_rows_by_hand(self):
        self.assertEqual(own_row((1, ()), 0), "X")
        self.assertEqual(own_row((4, ((0, 3),)), 3), "Z..X")
        self.assertEqual(own_row((4, ((0, 3),)), 1), ".X..")

    def test_by_the_other_road(self):
        for hall in halls():
            self.assertEqual(room(hall), roads.room(hall))

    def test_by_hand(self):
        self.assertEqual(room((1, ())), (".", "X"))
        self.assertEqual(room((2, ())), ("..", ".X", "X.", "XX"))
        self.assertEqual(room((2, ((0, 1),))), ("..", "XZ", "YY", "ZX"))

    def test_ascending_and_two_to_the_n(self):
        for hall in halls():
            rows = room(hall)
            self.assertIs(type(rows), tuple)
            self.assertEqual(len(rows), 2 ** hall[0])
            self.assertEqual(list(rows), sorted(set(rows)))

    def test_closed_and_no_odd_meetings(self):
        for hall in halls():
            rows = room(hall)
            step = max(1, len(rows) // 16)
            for one, other in itertools.product(rows[::step], rows):
                self.assertIn(added(one, other), rows)
                self.assertIs(meet_oddly(one, other), False)


class InRoom(unittest.TestCase):
    def test_both_ways(self):
        """A row is in the room if it is one of its rows, and if it meets none of them oddly."""
        for hall in halls():
            if hall[0] <= 4:
                rows = room(hall)
                for row in roads.rows_of_looks(hall[0]):
                    told = is_in_room(hall, row)
                    self.assertIs(told, row in rows)
                    self.assertIs(told, not any(meet_oddly(row, other) for other in rows))

    def test_up_to_eight_people(self):
        for n in range(5, 9):
            for hall in some_halls(n, 6):
                rows = room(hall)
                for row in [*some_rows(n, 60), *rows[::3], *[added(rows[-1], row) for row in some_rows(n, 10)]]:
                    told = is_in_room(hall, row)
                    self.assertIs(told, row in rows)
                    self.assertIs(told, not any(roads.meet_oddly(row, other) for other in rows))

    def test_by_hand(self):
        self.assertIs(is_in_room((1, ()), "."), True)
        self.assertIs(is_in_room((1, ()), "X"), True)
        self.assertIs(is_in_room((1, ()), "Y"), False)
        self.assertIs(is_in_room((1, ()), "Z"), False)
        self.assertIs(is_in_room(TRIPLE, "..."), True)
        self.assertIs(is_in_room(TRIPLE, "ZYY"), True)
        self.assertIs(is_in_room(TRIPLE, "ZXY"), False)
