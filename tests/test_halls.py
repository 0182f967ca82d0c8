"""Promise [2]: halls, friends, turns, rows of turns, swaps."""

import unittest

from tests import roads
from tests.hands import all_halls, halls, some_halls
from turnfriends.errors import BadRow, NotFriends
from turnfriends.halls import friends, is_hall, swapped, turned, turned_all

TRIPLE = (3, ((0, 1), (1, 2)))


class Halls(unittest.TestCase):
    def test_halls_are_halls(self):
        for hall in halls():
            self.assertIs(is_hall(hall), True)

    def test_least_and_greatest(self):
        self.assertIs(is_hall((1, ())), True)
        self.assertIs(is_hall((8, tuple((x, y) for x in range(8) for y in range(x + 1, 8)))), True)
        self.assertIs(is_hall((0, ())), False)
        self.assertIs(is_hall((9, ())), False)

    def test_pairs_ascend(self):
        self.assertIs(is_hall((4, ((0, 1), (0, 3), (1, 2)))), True)
        self.assertIs(is_hall((4, ((0, 3), (0, 1), (1, 2)))), False)
        self.assertIs(is_hall((4, ((0, 1), (1, 2), (0, 3)))), False)
        self.assertIs(is_hall((4, ((0, 1), (0, 1)))), False)
        self.assertIs(is_hall((4, ((1, 0),))), False)


class Friends(unittest.TestCase):
    def test_each_person(self):
        for hall in halls():
            for x in range(hall[0]):
                self.assertEqual(friends(hall, x), roads.friends(hall, x))

    def test_none_some_all(self):
        self.assertEqual(friends((1, ()), 0), ())
        self.assertEqual(friends((2, ()), 1), ())
        self.assertEqual(friends((2, ((0, 1),)), 1), (0,))
        self.assertEqual(friends((8, tuple((x, 7) for x in range(7))), 7), (0, 1, 2, 3, 4, 5, 6))


class Turns(unittest.TestCase):
    def test_by_the_other_road(self):
        for hall in halls():
            for x in range(hall[0]):
                self.assertEqual(turned(hall, x), roads.turned(hall, x))

    def test_by_hand(self):
        self.assertEqual(turned((1, ()), 0), (1, ()))
        self.assertEqual(turned((2, ((0, 1),)), 0), (2, ((0, 1),)))
        self.assertEqual(turned((3, ((0, 1), (0, 2), (1, 2))), 0), (3, ((0, 1), (0, 2))))
        self.assertEqual(turned((4, ((0, 1), (0, 2), (0, 3), (2, 3))), 0), (4, ((0, 1), (0, 2), (0, 3), (1, 2), (1, 3))))

    def test_twice_is_nothing(self):
        for hall in halls():
            for x in range(hall[0]):
                self.assertEqual(turned(turned(hall, x), x), hall)

    def test_answers_are_halls(self):
        for hall in halls():
            for x in range(hall[0]):
                self.assertIs(is_hall(turned(hall, x)), True)


class Rows(unittest.TestCase):
    def test_one_behind_another(self):
        for hall in halls():
            row = tuple((3 * k + k // 4) % hall[0] for k in range(9))
            behind = hall
            for x in row:
                behind = roads.turned(behind, x)
            self.assertEqual(turned_all(hall, row), behind)

    def test_order_counts(self):
        self.assertEqual(turned_all(TRIPLE, (1, 0)), (3, ((0, 1), (0, 2))))
        self.assertEqual(turned_all(TRIPLE, (0, 1)), (3, ((0, 1), (0, 2), (1, 2))))

    def test_no_turns(self):
        for n in range(1, 9):
            for hall in some_halls(n, 2):
                self.assertEqual(turned_all(hall, ()), hall)

    def test_two_hundred_at_most(self):
        self.assertEqual(turned_all(TRIPLE, (1,) * 200), TRIPLE)
        self.assertEqual(turned_all(TRIPLE, (1,) * 199), turned(TRIPLE, 1))
        for many in (201, 202, 300):
            with self.assertRaises(BadRow):
                turned_all(TRIPLE, (1,) * many)


class Swaps(unittest.TestCase):
    def test_three_turns(self):
        for hall in halls():
            for x, y in hall[1]:
                behind = roads.turned(roads.turned(roads.turned(hall, x), y), x)
                self.assertEqual(swapped(hall, x, y), behind)
                self.assertEqual(swapped(hall, y, x), behind)
                self.assertEqual(turned_all(hall, (x, y, x)), turned_all(hall, (y, x, y)))

    def test_by_hand(self):
        self.assertEqual(swapped((2, ((0, 1),)), 0, 1), (2, ((0, 1),)))
        self.assertEqual(swapped(TRIPLE, 0, 1), (3, ((0, 1), (0, 2))))
        self.assertEqual(swapped(TRIPLE, 2, 1), (3, ((0, 2), (1, 2))))

    def test_strangers(self):
        for n in range(1, 5):
            for hall in all_halls(n):
                for x in range(n):
                    for y in range(n):
                        if not roads.are_friends(hall, x, y):
                            with self.assertRaises(NotFriends):
                                swapped(hall, x, y)
