"""Promises [17] and [18]: leaving, and small halls that lie in a hall."""

import itertools
import random
import unittest

from tests import roads
from tests.hands import all_halls, some_halls
from turnfriends.classes import least_member
from turnfriends.halls import is_hall, renamed, swapped, turned, turned_all
from turnfriends.leading import leads
from turnfriends.leaving import all_left, left, lies_in

PATH = (3, ((0, 1), (1, 2)))
RING = (5, ((0, 1), (0, 4), (1, 2), (2, 3), (3, 4)))


def halls_to_leave():
    for n in range(2, 5):
        yield from all_halls(n)
    for n in range(5, 9):
        yield from some_halls(n, 8)


class Left(unittest.TestCase):
    def test_as_told(self):
        for hall in halls_to_leave():
            for x in range(hall[0]):
                known = roads.friends(hall, x)
                behind = swapped(hall, x, known[0]) if known else hall
                self.assertEqual(left(hall, x, "Z"), roads.without(hall, x))
                self.assertEqual(left(hall, x, "Y"), roads.without(turned(hall, x), x))
                self.assertEqual(left(hall, x, "X"), roads.without(behind, x))

    def test_halls_are_left(self):
        for hall in halls_to_leave():
            for x in range(hall[0]):
                for look in "XYZ":
                    self.assertIs(is_hall(left(hall, x, look)), True)
                    self.assertEqual(left(hall, x, look)[0], hall[0] - 1)

    def test_by_hand(self):
        self.assertEqual([left((2, ()), x, look) for x in (0, 1) for look in "XYZ"], [(1, ())] * 6)
        self.assertEqual([left((2, ((0, 1),)), x, look) for x in (0, 1) for look in "XYZ"], [(1, ())] * 6)
        self.assertEqual([left(PATH, 1, look) for look in "XYZ"], [(2, ((0, 1),)), (2, ((0, 1),)), (2, ())])
        self.assertEqual([left(PATH, 0, look) for look in "XYZ"], [(2, ()), (2, ((0, 1),)), (2, ((0, 1),))])
        self.assertEqual([left(PATH, 2, look) for look in "XYZ"], [(2, ()), (2, ((0, 1),)), (2, ((0, 1),))])
        self.assertEqual(left(RING, 0, "Z"), (4, ((0, 1), (1, 2), (2, 3))))
        self.assertEqual(left(RING, 0, "Y"), (4, ((0, 1), (0, 3), (1, 2), (2, 3))))
        self.assertEqual(left(RING, 2, "Y"), (4, ((0, 1), (0, 3), (1, 2), (2, 3))))
        # The swap of 3 and its least friend 2: 2 and 3 stand for one another, and 1 and 4 become friends.
        self.assertEqual(turned_all(RING, (3, 2, 3)), (5, ((0, 1), (0, 4), (1, 3), (1, 4), (2, 3), (2, 4))))
        self.assertEqual(left(RING, 3, "X"), (4, ((0, 1), (0, 3), (1, 3), (2, 3))))

    def test_without_friends(self):
        lonely = (4, ((0, 1), (0, 3)))
        self.assertEqual([left(lonely, 2, look) for look in "XYZ"], [(3, ((0, 1), (0, 2)))] * 3)

    def test_the_least_friend(self):
        # Behind the swap the friend stands in the middle instead.
        self.assertEqual(left((4, ((0, 3), (1, 3), (2, 3))), 3, "X"), (3, ((0, 1), (0, 2))))
        self.assertEqual(left((4, ((0, 1), (1, 2), (1, 3))), 1, "X"), (3, ((0, 1), (0, 2))))
        self.assertEqual(left((5, ((1, 4), (2, 4), (3, 4))), 4, "X"), (4, ((1, 2), (1, 3))))
        path = (4, ((0, 3), (1, 2), (2, 3)))
        self.assertEqual([left(path, 2, "X"), left(path, 3, "X")], [(3, ((0, 2), (1, 2))), (3, ((0, 2), (1, 2)))])


class AllLeft(unittest.TestCase):
    def test_by_the_three(self):
        for hall in halls_to_leave():
            for x in range(hall[0]):
                three = {least_member(left(hall, x, look)) for look in "XYZ"}
                self.assertEqual(all_left(hall, x), tuple(sorted(three)))

    def test_whatever_turns_come_ahead(self):
        """The classes of all halls that come by turns, then left by the person, are those of the three."""
        for n in range(2, 5):
            for hall in all_halls(n):
                for x in range(n):
                    told = {roads.class_of(roads.without(member, x))[0] for member in roads.class_of(hall)}
                    self.assertEqual(all_left(hall, x), tuple(sorted(told)))

    def test_drawn_turns_ahead(self):
        chance = random.Random(17)
        for n in range(5, 9):
            for hall in some_halls(n, 5):
                for x in range(n):
                    three = [left(hall, x, look) for look in "XYZ"]
                    row = tuple(chance.randrange(n) for _ in range(chance.randrange(9)))
                    behind = roads.without(turned_all(hall, row), x)
                    self.assertTrue(any(leads(behind, other) for other in three))
                    self.assertIn(least_member(behind), all_left(hall, x))

    def test_by_hand(self):
        self.assertEqual(all_left((2, ()), 1), ((1, ()),))
        self.assertEqual(all_left((2, ((0, 1),)), 0), ((1, ()),))
        self.assertEqual(all_left(PATH, 1), ((2, ()), (2, ((0, 1),))))
        self.assertEqual(all_left((8, ()), 3), ((7, ()),))
        self.assertEqual(len(all_left(RING, 0)), 3)


class LiesIn(unittest.TestCase):
    def test_all_halls_of_up_to_three(self):
        for n in range(1, 4):
            for hall in all_halls(n):
                for m in range(1, n + 1):
                    for who in itertools.permutations(range(n), m):
                        for small in all_halls(m):
                            self.assertIs(lies_in(small, hall, who), small in roads.behind_leaving(hall, who))

    def test_four_people(self):
        for hall in all_halls(4):
            for m in range(1, 4):
                for who in itertools.permutations(range(4), m):
                    for small in all_halls(m):
                        self.assertIs(lies_in(small, hall, who), small in roads.behind_leaving(hall, who))

    def test_four_people_in_their_order(self):
        for hall in all_halls(4):
            for small in all_halls(4):
                self.assertIs(lies_in(small, hall, (0, 1, 2, 3)), small in roads.class_of(hall))

    def test_four_people_who_all_stay(self):
        for hall in some_halls(4, 8):
            for who in itertools.permutations(range(4)):
                for small in all_halls(4):
                    self.assertIs(lies_in(small, hall, who), renamed(small, who) in roads.class_of(hall))

    def test_five_people(self):
        for hall in list(some_halls(5, 2)) + [RING]:
            for who in ((0, 1), (4, 2), (3,), (0, 2, 4), (2, 1, 3), (4, 3, 2, 1), (1, 3, 0, 4)):
                for small in all_halls(len(who)):
                    self.assertIs(lies_in(small, hall, who), small in roads.behind_leaving(hall, who))

    def test_what_comes_lies_in(self):
        chance = random.Random(18)
        for n in range(5, 9):
            for hall in some_halls(n, 6):
                people, behind = list(range(n)), hall
                for _ in range(chance.randrange(n)):
                    for _ in range(3):
                        behind = roads.turned(behind, chance.randrange(behind[0]))
                    x = chance.randrange(behind[0])
                    behind = roads.without(behind, x)
                    del people[x]
                order = tuple(chance.sample(range(len(people)), len(people)))
                who = tuple(people[order.index(k)] for k in range(len(people)))
                self.assertIs(lies_in(renamed(behind, order), hall, who), True)

    def test_all_stay(self):
        for n in range(1, 9):
            for hall in some_halls(n, 4):
                self.assertIs(lies_in(hall, hall, tuple(range(n))), True)
                self.assertIs(lies_in(turned(hall, n - 1), hall, tuple(range(n))), True)
                backwards = tuple(range(n - 1, -1, -1))
                self.assertIs(lies_in(renamed(hall, backwards), hall, backwards), True)

    def test_by_hand(self):
        pair, strangers = (2, ((0, 1),)), (2, ())
        self.assertIs(lies_in(pair, PATH, (0, 2)), True)
        self.assertIs(lies_in(strangers, PATH, (0, 2)), True)
        self.assertIs(lies_in(pair, (8, ()), (0, 7)), False)
        self.assertIs(lies_in(strangers, (2, ((0, 1),)), (0, 1)), False)
        self.assertIs(lies_in((1, ()), (8, ()), (7,)), True)
        # Two friends and two friends: the strangers among them never become friends.
        twos = (4, ((0, 1), (2, 3)))
        self.assertEqual([lies_in(pair, twos, who) for who in ((0, 1), (0, 2), (3, 2), (3, 0))], [True, False, True, False])
        path = (3, ((0, 1), (0, 2)))
        self.assertEqual([lies_in(small, path, (0, 1, 2)) for small in (PATH, path, (3, ((0, 1),)))], [True, True, False])
        self.assertIs(lies_in(RING, (6, ((0, 1), (0, 5), (1, 2), (2, 3), (3, 4), (4, 5))), (0, 1, 2, 3, 4)), True)
        self.assertIs(lies_in(RING, (8, tuple((0, x) for x in range(1, 8))), (0, 1, 2, 3, 4)), False)

    def test_order_of_who(self):
        """The four of a path lie in it only in the orders that keep its two halves."""
        path = (4, ((0, 1), (1, 2), (2, 3)))
        told = [who for who in itertools.permutations(range(4)) if lies_in(path, path, who)]
        halves = [who for who in itertools.permutations(range(4)) if set(who[:2]) in ({0, 1}, {2, 3})]
        self.assertEqual(told, halves)
