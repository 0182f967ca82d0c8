"""Promise [28]: the least halls by turns and renaming, and the lists of them."""

import functools
import itertools
import random
import unittest

from tests import roads
from tests.hands import WRONG, WRONG_HALLS, WRONG_PEOPLE, all_halls, pairs_of, some_halls
from turnfriends.errors import BadHall, BadPeople
from turnfriends.halls import renamed, turned
from turnfriends.leading import leads
from turnfriends.listing import classes_of, least_named

RING = (5, ((0, 1), (0, 4), (1, 2), (2, 3), (3, 4)))


@functools.lru_cache(maxsize=None)
def least_by_words(hall):
    """The least one of all renamings of all halls that come by turns."""
    orders = list(itertools.permutations(range(hall[0])))
    return min(renamed(member, order) for member in roads.class_of(hall) for order in orders)


class LeastNamed(unittest.TestCase):
    def test_all_turns_and_renamings(self):
        for n in range(1, 5):
            for hall in all_halls(n):
                self.assertEqual(least_named(hall), least_by_words(hall))

    def test_five_and_six_people(self):
        for hall in [*some_halls(5, 15), RING, *some_halls(6, 2)]:
            self.assertEqual(least_named(hall), least_by_words(hall))

    def test_equal_for_all_that_come_of_one(self):
        chance = random.Random(34)
        for n in range(1, 7):
            for hall in some_halls(n, 12):
                other = hall
                for _ in range(6):
                    other = renamed(turned(other, chance.randrange(n)), tuple(chance.sample(range(n), n)))
                self.assertEqual(least_named(other), least_named(hall))
                self.assertEqual(least_named(least_named(hall)), least_named(hall))

    def test_equal_for_no_others(self):
        """Some renaming is led to by turns exactly if the least ones are equal."""
        for n in (2, 3, 4):
            for hall, other in itertools.product(some_halls(n, 8), repeat=2):
                told = any(leads(renamed(hall, order), other) for order in itertools.permutations(range(n)))
                self.assertIs(least_named(hall) == least_named(other), told)
        for hall, other in itertools.product(some_halls(5, 3), repeat=2):
            told = any(leads(renamed(hall, order), other) for order in itertools.permutations(range(5)))
            self.assertIs(least_named(hall) == least_named(other), told)

    def test_by_hand(self):
        self.assertEqual([least_named((n, ())) for n in range(1, 7)], [(n, ()) for n in range(1, 7)])
        self.assertEqual(least_named((6, ((4, 5),))), (6, ((0, 1),)))
        self.assertEqual(least_named((6, tuple(pairs_of(6)))), (6, tuple((0, x) for x in range(1, 6))))
        self.assertEqual(least_named((4, ((0, 3), (1, 2)))), (4, ((0, 1), (2, 3))))
        # Pairs further on count only where those ahead are the same: 0-3 comes ahead of 1-3.
        self.assertEqual(least_named((4, ((0, 1), (1, 2), (2, 3)))), (4, ((0, 1), (0, 2), (0, 3), (1, 2))))
        self.assertEqual(least_named((4, ((0, 2), (0, 3), (1, 2), (1, 3)))), (4, ((0, 1), (0, 2), (0, 3), (1, 2))))

    def test_at_most_six(self):
        for hall in [*WRONG_HALLS, (7, ()), (8, ()), (7, ((0, 1),)), (8, tuple(pairs_of(8)))]:
            with self.assertRaises(BadHall):
                least_named(hall)


class ClassesOf(unittest.TestCase):
    def test_numbers(self):
        self.assertEqual([len(classes_of(n)) for n in range(1, 6)], [1, 2, 3, 6, 11])

    def test_all_halls(self):
        for n in range(1, 5):
            self.assertEqual(classes_of(n), tuple(sorted({least_by_words(hall) for hall in all_halls(n)})))

    def test_five_people(self):
        told = classes_of(5)
        self.assertEqual(list(told), sorted(set(told)))
        for hall in told:
            self.assertEqual(least_by_words(hall), hall)
        for hall in all_halls(5):
            self.assertIn(least_named(hall), told)

    def test_by_hand(self):
        self.assertEqual(classes_of(1), ((1, ()),))
        self.assertEqual(classes_of(2), ((2, ()), (2, ((0, 1),))))
        self.assertEqual(classes_of(3), ((3, ()), (3, ((0, 1),)), (3, ((0, 1), (0, 2)))))
        self.assertEqual(classes_of(4), (
            (4, ()), (4, ((0, 1),)), (4, ((0, 1), (0, 2))), (4, ((0, 1), (0, 2), (0, 3))),
            (4, ((0, 1), (0, 2), (0, 3), (1, 2))), (4, ((0, 1), (2, 3))),
        ))

    def test_wrong_people(self):
        for value in [*WRONG, *WRONG_PEOPLE]:
            with self.assertRaises(BadPeople):
                classes_of(value)
