"""Promise [27]: the widths of halls and of orders."""

import itertools
import random
import unittest

from tests import hands, roads
from tests.hands import all_halls, pairs_of, some_halls
from turnfriends.errors import BadHall, BadOrder
from turnfriends.growing import is_grown
from turnfriends.halls import rank_of, renamed, turned
from turnfriends.widths import narrow_order, width, width_of

RING = (5, ((0, 1), (0, 4), (1, 2), (2, 3), (3, 4)))


def width_by_words(hall, order):
    return max(roads.rank_of(hall, tuple(sorted(order[:many]))) for many in range(len(order) + 1))


class Widths(unittest.TestCase):
    def test_orders(self):
        for n in range(1, 5):
            for hall in all_halls(n):
                for order in itertools.permutations(range(n)):
                    self.assertEqual(width_of(hall, order), width_by_words(hall, order))
        chance = random.Random(31)
        for n in range(5, 9):
            for hall in some_halls(n, 8):
                for _ in range(4):
                    order = tuple(chance.sample(range(n), n))
                    self.assertEqual(width_of(hall, order), width_by_words(hall, order))
                    self.assertEqual(width_of(hall, order[::-1]), width_of(hall, order))

    def test_all_orders_of_up_to_five(self):
        for n in range(1, 6):
            for hall in all_halls(n) if n < 5 else list(all_halls(5))[::5]:
                widths = {order: width_of(hall, order) for order in itertools.permutations(range(n))}
                least = min(widths.values())
                self.assertEqual(width(hall), least)
                # The orders are gone through in their own order.
                self.assertEqual(narrow_order(hall), next(order for order in widths if widths[order] == least))

    def test_all_orders_of_six(self):
        for hall in some_halls(6, 12):
            ranks = {lot: rank_of(hall, lot) for lot in roads.lots(6)}
            widths = {
                order: max(ranks[tuple(sorted(order[:many]))] for many in range(7)) for order in itertools.permutations(range(6))
            }
            least = min(widths.values())
            self.assertEqual(width(hall), least)
            self.assertEqual(narrow_order(hall), min(order for order in widths if widths[order] == least))

    def test_turns_keep_them(self):
        chance = random.Random(32)
        for n in range(1, 9):
            for hall in all_halls(n) if n < 5 else some_halls(n, 12):
                order = tuple(chance.sample(range(n), n))
                for x in range(n):
                    behind = turned(hall, x)
                    self.assertEqual(width(behind), width(hall))
                    self.assertEqual(narrow_order(behind), narrow_order(hall))
                    self.assertEqual(width_of(behind, order), width_of(hall, order))

    def test_renaming_keeps_the_width(self):
        chance = random.Random(33)
        for n in range(1, 9):
            for hall in some_halls(n, 8):
                names = tuple(chance.sample(range(n), n))
                self.assertEqual(width(renamed(hall, names)), width(hall))
                order = tuple(chance.sample(range(n), n))
                self.assertEqual(width_of(renamed(hall, names), tuple(names[x] for x in order)), width_of(hall, order))

    def test_narrow_orders(self):
        for n in range(1, 9):
            for hall in some_halls(n, 12):
                order = narrow_order(hall)
                self.assertEqual([type(order), sorted(order)], [tuple, list(range(n))])
                self.assertEqual(width_of(hall, order), width(hall))

    def test_eight_people(self):
        row = (8, tuple((x, x + 1) for x in range(7)))
        self.assertEqual([width((8, ())), width(row), width((8, tuple(pairs_of(8))))], [0, 1, 1])
        self.assertEqual([width_of(row, tuple(range(8))), width_of(row, (0, 2, 4, 6, 1, 3, 5, 7))], [1, 4])
        self.assertEqual(narrow_order((8, tuple(pairs_of(8)))), tuple(range(8)))
        crossed = (8, ((0, 7), (1, 6), (2, 5), (3, 4)))
        self.assertEqual([width(crossed), width_of(crossed, tuple(range(8)))], [1, 4])
        self.assertEqual(narrow_order(crossed), (0, 7, 1, 6, 2, 5, 3, 4))
        ring = (8, tuple(sorted([*[(x, x + 1) for x in range(7)], (0, 7)])))
        self.assertEqual([width(ring), narrow_order(ring)], [2, tuple(range(8))])

    def test_by_hand(self):
        self.assertEqual([width((1, ())), width_of((1, ()), (0,)), narrow_order((1, ()))], [0, 0, (0,)])
        self.assertEqual([width((2, ((0, 1),))), narrow_order((2, ((0, 1),)))], [1, (0, 1)])
        self.assertEqual([width_of(RING, (0, 2, 1, 3, 4)), width(RING)], [2, 2])
        # The least order of width 1 of the row 1 - 3 - 0 - 2.
        self.assertEqual(narrow_order((4, ((0, 2), (0, 3), (1, 3)))), (0, 2, 1, 3))

    def test_halls_of_width_one_grow(self):
        for n in range(1, 9):
            for hall in some_halls(n, 12):
                if width(hall) <= 1:
                    self.assertIs(is_grown(hall), True)

    def test_wrong_orders(self):
        for n in range(1, 9):
            for order in (tuple(range(n - 1)), tuple(range(n + 1)), (0,) * n if n > 1 else (1,), tuple(range(1, n + 1))):
                with self.assertRaises(BadOrder):
                    width_of((n, ()), order)
        for value in hands.WRONG_ORDERS:
            with self.assertRaises(BadOrder):
                width_of((3, ((0, 1),)), value)
            with self.assertRaises(BadHall):
                width_of((3, ((1, 0),)), value)
