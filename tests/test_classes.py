"""Promises [15] and [16]: classes, and the fewest turns that lead to a member."""

import itertools
import random
import unittest

from tests import roads
from tests.hands import HUGE, all_halls, pairs_of, some_halls
from turnfriends.classes import (
    count_members, farthest, fewest_turns, least_member, least_row, member_at, members, number_of,
)
from turnfriends.errors import BadNumber, NoWay
from turnfriends.halls import is_hall, turned, turned_all
from turnfriends.naming import count_answers

PATH = (3, ((0, 1), (1, 2)))
STAR = (8, tuple((0, x) for x in range(1, 8)))


class Members(unittest.TestCase):
    def test_all_halls_of_up_to_five(self):
        for n in range(1, 6):
            for hall in all_halls(n):
                told = members(hall)
                self.assertEqual(told, tuple(roads.class_of(hall)))
                self.assertEqual(least_member(hall), told[0])
                self.assertEqual(number_of(hall), told.index(hall))

    def test_numbers_of_members(self):
        for n in range(1, 6):
            for hall in all_halls(n):
                self.assertEqual(count_members(hall), len(roads.class_of(hall)))

    def test_choices_by_answers(self):
        for n in range(1, 4):
            for hall in all_halls(n):
                whole = [choice for choice in roads.choices_of(n) if len(roads.left_over(hall, choice)) == 1]
                own = [change for change in roads.changes(n) if roads.is_answer(hall, hall, change)]
                self.assertEqual(count_members(hall) * len(own), len(whole))

    def test_six_to_eight_people(self):
        for n in (6, 7, 8):
            for hall in some_halls(n, 5):
                told = members(hall)
                self.assertEqual(list(told), sorted(set(told)))
                self.assertEqual(count_members(hall), len(told))
                self.assertEqual(told[number_of(hall)], hall)
                known = set(told)
                for member in told[::max(1, len(told) // 3)]:
                    self.assertIs(is_hall(member), True)
                    for x in range(n):
                        self.assertIn(turned(member, x), known)
                    self.assertEqual(members(member), told)
                    self.assertEqual(least_member(member), told[0])
                    self.assertEqual(count_members(member), len(told))

    def test_all_that_come_of_seven(self):
        for hall in some_halls(7, 1):
            self.assertEqual(members(hall), tuple(roads.class_of(hall)))

    def test_by_hand(self):
        self.assertEqual(members((1, ())), ((1, ()),))
        self.assertEqual(members((2, ((0, 1),))), ((2, ((0, 1),)),))
        self.assertEqual(members((3, ((0, 1),))), ((3, ((0, 1),)),))
        everybody = (3, ((0, 1), (0, 2), (1, 2)))
        self.assertEqual(members(PATH), ((3, ((0, 1), (0, 2))), everybody, PATH, (3, ((0, 2), (1, 2)))))
        self.assertEqual([count_members((8, ())), least_member((8, ()))], [1, (8, ())])
        # Everybody with everybody, and one in the middle of all.
        self.assertEqual([count_members(STAR), count_members((8, tuple(pairs_of(8))))], [9, 9])
        self.assertEqual(count_members((8, ((0, 1), (2, 3), (4, 5), (6, 7)))), 1)


class Numbers(unittest.TestCase):
    def test_there_and_back(self):
        for n in range(1, 5):
            for hall in all_halls(n):
                told = [member_at(hall, number) for number in range(count_members(hall))]
                self.assertEqual(told, roads.class_of(hall))
                self.assertEqual(member_at(hall, number_of(hall)), hall)
                self.assertEqual([number_of(member) for member in told], list(range(len(told))))

    def test_five_to_eight_people(self):
        chance = random.Random(16)
        for n in range(5, 9):
            for hall in some_halls(n, 5):
                many = count_members(hall)
                self.assertEqual(member_at(hall, number_of(hall)), hall)
                for number in {0, many - 1, chance.randrange(many), chance.randrange(many)}:
                    self.assertEqual(number_of(member_at(hall, number)), number)

    def test_beyond_the_ends(self):
        for hall in (PATH, (1, ()), (8, ()), STAR, (5, ((0, 1), (0, 4), (1, 2), (2, 3), (3, 4)))):
            many = count_members(hall)
            self.assertEqual(member_at(hall, 0), members(hall)[0])
            self.assertEqual(member_at(hall, many - 1), members(hall)[-1])
            for number in (-1, many, -many, many + 1, 10 ** 18, HUGE, -HUGE):
                with self.assertRaises(BadNumber):
                    member_at(hall, number)


class Fewest(unittest.TestCase):
    def hold(self, hall):
        first = roads.rows_to(hall)
        for other, row in first.items():
            self.assertEqual(fewest_turns(hall, other), len(row))
            self.assertEqual(least_row(hall, other), row)
        most = max(map(len, first.values()))
        far = sorted(other for other, row in first.items() if len(row) == most)
        self.assertEqual(farthest(hall), (most, tuple(far)))

    def test_all_rows_gone_through_up_to_three(self):
        for n in range(1, 4):
            for hall in all_halls(n):
                self.hold(hall)

    def test_all_rows_gone_through_four(self):
        for hall in list(all_halls(4))[::3]:
            self.hold(hall)

    def test_all_rows_gone_through_five(self):
        for hall in list(some_halls(5, 6)):
            self.hold(hall)

    def test_up_to_eight_people(self):
        chance = random.Random(3)
        for n in range(5, 9):
            for hall in some_halls(n, 4):
                other = hall
                for _ in range(9):
                    other = turned(other, chance.randrange(n))
                row = least_row(hall, other)
                self.assertEqual(len(row), fewest_turns(hall, other))
                self.assertEqual(len(row), fewest_turns(other, hall))
                self.assertLessEqual(len(row), min(9, 3 * n // 2))
                self.assertEqual(turned_all(hall, row), other)
                self.hold_steps(hall, other, row)

    def hold_steps(self, hall, other, row):
        """Each turn of the row is the least one from which on the others suffice."""
        for k, x in enumerate(row):
            here = turned_all(hall, row[:k])
            for y in range(x):
                self.assertGreaterEqual(fewest_turns(turned(here, y), other), len(row) - k)
            self.assertEqual(fewest_turns(here, other), len(row) - k)

    def test_farthest_of_up_to_eight(self):
        for n in (6, 7, 8):
            for hall in some_halls(n, 3):
                most, far = farthest(hall)
                told = members(hall)
                self.assertLessEqual(most, 3 * n // 2)
                self.assertEqual(list(far), sorted(set(far)))
                for other in told[::max(1, len(told) // 8)]:
                    turns = fewest_turns(hall, other)
                    self.assertLessEqual(turns, most)
                    self.assertIs(turns == most, other in far)
                self.assertEqual(fewest_turns(hall, far[0]), most)

    def test_by_hand(self):
        self.assertEqual([fewest_turns(PATH, PATH), least_row(PATH, PATH)], [0, ()])
        self.assertEqual(farthest((8, ())), (0, ((8, ()),)))
        self.assertEqual(farthest((1, ())), (0, ((1, ()),)))
        everybody = (8, tuple(pairs_of(8)))
        self.assertEqual([fewest_turns(STAR, everybody), least_row(STAR, everybody)], [1, (0,)])
        self.assertEqual(farthest(everybody)[0], 1)
        self.assertEqual(len(farthest(everybody)[1]), 8)
        self.assertEqual([farthest(STAR)[0], len(farthest(STAR)[1])], [2, 7])
        # Turns at 1 and 3, who don't know one another, may be done the one or the other way round.
        path = (5, ((0, 1), (1, 2), (2, 3), (3, 4)))
        self.assertEqual(least_row(path, turned_all(path, (3, 1))), (1, 3))
        self.assertEqual(least_row(path, turned_all(path, (1, 3))), (1, 3))

    def test_no_way(self):
        for n in range(1, 5):
            for hall, other in itertools.product(some_halls(n, 5), all_halls(n)):
                if other not in roads.class_of(hall):
                    for function in (fewest_turns, least_row):
                        with self.assertRaises(NoWay):
                            function(hall, other)
        for function in (fewest_turns, least_row):
            with self.assertRaises(NoWay):
                function((8, ()), STAR)

    def test_answers_to_members(self):
        """Each member has as many answers as the hall itself."""
        for hall in some_halls(5, 3):
            own = count_answers(hall, hall)
            for member in members(hall)[::10]:
                self.assertEqual(count_answers(hall, member), own)
