"""Promises [3] and [4]: lots, ranks, parts, renaming."""

import itertools
import unittest

from tests import roads
from tests.hands import all_halls, halls, pairs_of, some_halls
from turnfriends.halls import is_hall, parts, rank_of, ranks, renamed, turned


class Ranks(unittest.TestCase):
    def test_each_lot(self):
        for hall in halls():
            if hall[0] <= 6:
                for lot in roads.lots(hall[0]):
                    self.assertEqual(rank_of(hall, lot), roads.rank_of(hall, lot))

    def test_by_the_numbers_of_the_lots(self):
        for hall in halls():
            told = [rank_of(hall, lot) for lot in roads.lots(hall[0])]
            self.assertEqual(ranks(hall), tuple(told))

    def test_seven_and_eight_people(self):
        for n in (7, 8):
            for hall in some_halls(n, 4):
                for lot in roads.lots(n)[::5]:
                    self.assertEqual(rank_of(hall, lot), roads.rank_of(hall, lot))

    def test_by_hand(self):
        ring = (5, ((0, 1), (0, 4), (1, 2), (2, 3), (3, 4)))
        self.assertEqual(ranks((1, ())), (0, 0))
        self.assertEqual(ranks((2, ((0, 1),))), (0, 1, 1, 0))
        self.assertEqual(ranks((3, ())), (0,) * 8)
        self.assertEqual([rank_of(ring, (0, 1)), rank_of(ring, (0, 2)), rank_of(ring, (3,))], [2, 2, 1])
        self.assertEqual(rank_of((8, tuple(pairs_of(8))), (0, 2, 5)), 1)
        self.assertEqual(rank_of((8, ((0, 4), (1, 5), (2, 6), (3, 7))), (0, 1, 2, 3)), 4)
        # Over 0 and 1 three people, each a friend of another two of three, have rank 2.
        self.assertEqual(rank_of((6, ((0, 3), (0, 4), (1, 4), (1, 5), (2, 3), (2, 5))), (0, 1, 2)), 2)

    def test_nobody_and_everybody(self):
        for hall in halls():
            self.assertEqual(rank_of(hall, ()), 0)
            self.assertEqual(rank_of(hall, tuple(range(hall[0]))), 0)

    def test_turns_change_no_rank(self):
        for hall in halls():
            for x in range(hall[0]):
                self.assertEqual(ranks(turned(hall, x)), ranks(hall))


class Parts(unittest.TestCase):
    def test_by_the_other_road(self):
        for hall in halls():
            self.assertEqual(parts(hall), roads.parts(hall))

    def test_by_hand(self):
        self.assertEqual(parts((1, ())), ((0,),))
        self.assertEqual(parts((2, ())), ((0,), (1,)))
        self.assertEqual(parts((2, ((0, 1),))), ((0, 1),))
        self.assertEqual(parts((8, ((0, 7), (1, 6), (2, 5), (3, 4)))), ((0, 7), (1, 6), (2, 5), (3, 4)))
        path = (8, ((0, 7), (1, 6), (1, 7), (2, 5), (2, 6), (3, 4), (3, 5)))
        self.assertEqual(parts(path), ((0, 1, 2, 3, 4, 5, 6, 7),))

    def test_turns_change_no_part(self):
        for hall in halls():
            for x in range(hall[0]):
                self.assertEqual(parts(turned(hall, x)), parts(hall))


class Renaming(unittest.TestCase):
    def test_each_order(self):
        for n in range(1, 5):
            for hall in all_halls(n):
                for order in itertools.permutations(range(n)):
                    behind = renamed(hall, order)
                    self.assertIs(is_hall(behind), True)
                    for x, y in itertools.combinations(range(n), 2):
                        told = roads.are_friends(behind, order[x], order[y])
                        self.assertIs(told, roads.are_friends(hall, x, y))

    def test_by_hand(self):
        self.assertEqual(renamed((1, ()), (0,)), (1, ()))
        self.assertEqual(renamed((4, ((0, 1), (1, 2), (2, 3))), (2, 0, 3, 1)), (4, ((0, 2), (0, 3), (1, 3))))
        self.assertEqual(renamed((8, ((0, 1),)), (7, 6, 5, 4, 3, 2, 1, 0)), (8, ((6, 7),)))

    def test_turns_go_along(self):
        order = (3, 0, 4, 1, 2)
        for hall in some_halls(5, 20):
            for x in range(5):
                self.assertEqual(renamed(turned(hall, x), order), turned(renamed(hall, order), order[x]))
