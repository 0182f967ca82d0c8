"""Promises [20] to [22]: round dances, the dances of a hall, yards and their tours."""

import itertools
import random
import unittest
from collections import Counter

from tests import dancing, roads
from tests.hands import WRONG, WRONG_DANCES, all_halls, nested, pairs_of, some_halls
from turnfriends.choosing import choices
from turnfriends.classes import members
from turnfriends.dances import (
    count_tours, dances, hall_of_dance, is_danced, least_dance, tours, turned_dance, yard,
)
from turnfriends.errors import BadDance, BadHall, NoPerson
from turnfriends.halls import is_hall, renamed, turned
from turnfriends.listing import least_named

RING = (5, ((0, 1), (0, 4), (1, 2), (2, 3), (3, 4)))
# A ring of five, 1 to 5, all of whom know 0: the least hall that is not danced.
WHEEL = (6, ((0, 1), (0, 2), (0, 3), (0, 4), (0, 5), (1, 2), (1, 5), (2, 3), (3, 4), (4, 5)))


def dances_to_hold():
    """All dances of up to 4 persons, some of 5 to 8."""
    for n in range(1, 5):
        yield from dancing.all_dances(n)
    for n in range(5, 9):
        yield from dancing.some_dances(n, 60)


def side_by_side(dance):
    return any(x == y for x, y in zip(dance, dance[1:] + dance[:1]))


class Dances(unittest.TestCase):
    def test_what_is_held(self):
        """Persons twice side by side, also across the end, are among the dances of each number of persons."""
        for n in range(1, 9):
            told = [dance for dance in dances_to_hold() if len(dance) == 2 * n]
            self.assertTrue(any(side_by_side(dance) and dance[0] == dance[-1] for dance in told))
            self.assertTrue(any(side_by_side(dance) and dance[0] != dance[-1] for dance in told) or n == 1)

    def test_halls(self):
        for dance in dances_to_hold():
            self.assertEqual(hall_of_dance(dance), dancing.hall_of(dance))
            self.assertIs(is_hall(hall_of_dance(dance)), True)

    def test_turned_dances(self):
        for dance in dances_to_hold():
            for x in range(len(dance) // 2):
                self.assertEqual(turned_dance(dance, x), dancing.turned(dance, x))

    def test_turns_of_halls(self):
        for dance in dances_to_hold():
            for x in range(len(dance) // 2):
                self.assertEqual(hall_of_dance(turned_dance(dance, x)), roads.turned(dancing.hall_of(dance), x))

    def test_a_turn_takes_itself_back(self):
        for dance in dances_to_hold():
            for x in range(len(dance) // 2):
                self.assertEqual(turned_dance(turned_dance(dance, x), x), dance)

    def test_least_dances(self):
        for dance in dances_to_hold():
            self.assertEqual(least_dance(dance), dancing.least(dance))

    def test_all_rounds_have_one_hall_and_one_least_dance(self):
        for n in range(1, 9):
            for dance in dancing.some_dances(n, 5):
                for begin in range(2 * n):
                    for told in (dance[begin:] + dance[:begin], (dance[begin:] + dance[:begin])[::-1]):
                        self.assertEqual(hall_of_dance(told), hall_of_dance(dance))
                        self.assertEqual(least_dance(told), least_dance(dance))
                        self.assertEqual(yard(told), yard(dance))

    def test_by_hand(self):
        self.assertEqual([hall_of_dance((0, 0)), turned_dance((0, 0), 0), least_dance((0, 0))], [(1, ()), (0, 0), (0, 0)])
        self.assertEqual([hall_of_dance((1, 0, 0, 1)), least_dance((1, 0, 0, 1))], [(2, ()), (0, 0, 1, 1)])
        self.assertEqual(turned_dance((1, 0, 0, 1), 1), (1, 0, 0, 1))
        self.assertEqual(least_dance((2, 1, 0, 2, 1, 0)), (0, 1, 2, 0, 1, 2))
        self.assertEqual(least_dance((0, 2, 1, 0, 2, 1)), (0, 1, 2, 0, 1, 2))
        self.assertEqual(turned_dance((0, 1, 2, 3, 0, 2, 1, 3), 0), (0, 3, 2, 1, 0, 2, 1, 3))
        self.assertEqual(turned_dance((3, 0, 1, 2, 3, 0, 2, 1), 0), (3, 0, 3, 2, 1, 0, 2, 1))
        self.assertEqual(hall_of_dance(tuple(range(8)) * 2), (8, tuple(pairs_of(8))))
        self.assertEqual(hall_of_dance(dancing.ONE_BY_ONE[8]), (8, ()))


class DancesOfHalls(unittest.TestCase):
    def test_all_dances_gone_through(self):
        for n in range(1, 5):
            for hall in all_halls(n):
                self.assertEqual(dances(hall), dancing.dances_by_hall(n).get(hall, ()))
                self.assertIs(is_danced(hall), hall in dancing.dances_by_hall(n))

    def test_five_people(self):
        """All halls of five people are danced."""
        for hall in all_halls(5):
            told = dances(hall)
            self.assertIs(is_danced(hall), True)
            self.assertEqual(list(told), sorted(set(told)))
            for dance in told:
                self.assertEqual((dancing.hall_of(dance), dancing.least(dance)), (hall, dance))

    def test_no_dance_of_five_is_left_out(self):
        chance = random.Random(21)
        for _ in range(400):
            dance = tuple(chance.sample(dancing.ONE_BY_ONE[5], 10))
            self.assertIn(dancing.least(dance), dances(dancing.hall_of(dance)))

    def test_no_dance_of_six_is_left_out(self):
        for dance in dancing.some_dances(6, 200):
            self.assertIn(dancing.least(dance), dances(dancing.hall_of(dance)))

    def test_six_people(self):
        for hall in some_halls(6, 40):
            told = dances(hall)
            self.assertIs(is_danced(hall), bool(told))
            self.assertEqual(list(told), sorted(set(told)))
            for dance in told[::max(1, len(told) // 50)]:
                self.assertEqual((dancing.hall_of(dance), dancing.least(dance)), (hall, dance))

    def test_classes_are_danced_as_one(self):
        for n in range(1, 5):
            for hall in all_halls(n):
                self.assertEqual({is_danced(member) for member in roads.class_of(hall)}, {is_danced(hall)})
        for hall in [*some_halls(5, 10), RING, *some_halls(6, 10), WHEEL]:
            self.assertEqual({is_danced(member) for member in members(hall)}, {is_danced(hall)})

    def test_halls_that_are_not_danced(self):
        """Of halls of six people just those that come of the wheel by turns and renaming are not danced."""
        self.assertEqual([is_danced(WHEEL), dances(WHEEL)], [False, ()])
        chance = random.Random(6)
        for hall in [*some_halls(6, 40), *members(WHEEL)[::20]]:
            hall = renamed(hall, tuple(chance.sample(range(6), 6)))
            self.assertIs(is_danced(hall), least_named(hall) != least_named(WHEEL))

    def test_by_hand(self):
        self.assertEqual(dances((1, ())), ((0, 0),))
        self.assertEqual(dances((2, ((0, 1),))), ((0, 1, 0, 1),))
        self.assertEqual(dances((3, ())), (
            (0, 0, 1, 1, 2, 2), (0, 0, 1, 2, 2, 1), (0, 0, 2, 1, 1, 2), (0, 1, 1, 0, 2, 2),
        ))
        self.assertEqual(dances((3, tuple(pairs_of(3)))), ((0, 1, 2, 0, 1, 2),))
        self.assertEqual(dances(RING), ((0, 1, 4, 0, 3, 4, 2, 3, 1, 2),))
        # Six in a round, and the same round once more: 5! rounds, each told both ways round.
        self.assertEqual(len(dances((6, tuple(pairs_of(6))))), 60)

    def test_at_most_six(self):
        for function in (dances, is_danced):
            for hall in ((7, ()), (8, ()), (7, ((0, 1),)), (8, tuple(pairs_of(8))), (9, ()), (0, ())):
                with self.assertRaises(BadHall):
                    function(hall)


class Yards(unittest.TestCase):
    def test_paths(self):
        for dance in dances_to_hold():
            many = len(dance)
            counted = Counter(frozenset((dance[k], dance[k - 1])) for k in range(many))
            told = yard(dance)
            self.assertEqual(list(told), sorted(told))
            self.assertEqual(len(told), many)
            self.assertTrue(all(x <= y for x, y in told))
            self.assertEqual(Counter(map(frozenset, told)), counted)
            ends = Counter(x for pair in told for x in pair)
            self.assertEqual(set(ends.values()), {4})

    def test_by_hand(self):
        self.assertEqual(yard((0, 0)), ((0, 0), (0, 0)))
        self.assertEqual(yard((0, 0, 1, 1)), ((0, 0), (0, 1), (0, 1), (1, 1)))
        self.assertEqual(yard((0, 1, 1, 0)), ((0, 0), (0, 1), (0, 1), (1, 1)))
        self.assertEqual(yard((2, 0, 1, 2, 0, 1)), ((0, 1), (0, 1), (0, 2), (0, 2), (1, 2), (1, 2)))
        self.assertEqual(yard((0, 1, 2, 0, 2, 1)), ((0, 1), (0, 1), (0, 2), (0, 2), (1, 2), (1, 2)))
        self.assertEqual(yard((0, 1, 0, 2, 1, 2)), ((0, 1), (0, 1), (0, 2), (0, 2), (1, 2), (1, 2)))
        self.assertEqual(yard((0, 1, 1, 2, 0, 2)), ((0, 1), (0, 2), (0, 2), (0, 2), (1, 1), (1, 2)))


class Tours(unittest.TestCase):
    def hold(self, dance):
        found = dancing.rounds(dance)
        self.assertEqual(count_tours(dance), len(found))
        self.assertEqual(tours(dance), tuple(sorted({dancing.least(told) for told in found})))

    def test_all_dances_of_up_to_three(self):
        for n in range(1, 4):
            for dance in dancing.all_dances(n):
                self.hold(dance)

    def test_all_dances_of_four(self):
        for dance in dancing.all_dances(4):
            self.hold(dance)

    def test_five_and_six_persons(self):
        for n in (5, 6):
            for dance in dancing.some_dances(n, 8):
                self.hold(dance)

    def test_as_many_as_choices(self):
        for n in range(1, 7):
            told = dancing.all_dances(n) if n < 5 else dancing.some_dances(n, 15)
            for dance in list(told)[::1 if n < 4 else 3]:
                self.assertEqual(count_tours(dance), len(choices(hall_of_dance(dance))))

    def test_tours_share_a_yard(self):
        for n in range(1, 7):
            for dance in dancing.some_dances(n, 6):
                told = tours(dance)
                self.assertIn(least_dance(dance), told)
                for tour in told:
                    self.assertEqual(yard(tour), yard(dance))
                    self.assertEqual(least_dance(tour), tour)
                self.assertEqual(tours(told[-1]), told)
                self.assertEqual(count_tours(told[-1]), count_tours(dance))

    def test_turns_lead_to_all_tours(self):
        for n in range(1, 7):
            for dance in dancing.some_dances(n, 4):
                reached = [least_dance(dance)]
                for told in reached:
                    behind = {least_dance(turned_dance(told, x)) for x in range(n)}
                    reached.extend(sorted(behind - set(reached)))
                self.assertEqual(tuple(sorted(reached)), tours(dance))

    def test_by_hand(self):
        self.assertEqual([count_tours((0, 0)), tours((0, 0))], [2, ((0, 0),)])
        self.assertEqual([count_tours((0, 0, 1, 1)), tours((0, 0, 1, 1))], [4, ((0, 0, 1, 1),)])
        self.assertEqual(count_tours((0, 1, 2, 0, 1, 2)), 16)
        self.assertEqual(tours((0, 1, 2, 0, 1, 2)), (
            (0, 1, 0, 2, 1, 2), (0, 1, 2, 0, 1, 2), (0, 1, 2, 0, 2, 1), (0, 1, 2, 1, 0, 2),
        ))
        self.assertEqual([count_tours(dancing.ONE_BY_ONE[6]), tours(dancing.ONE_BY_ONE[6])], [64, (dancing.ONE_BY_ONE[6],)])

    def test_at_most_six(self):
        for n in (7, 8):
            for dance in dancing.some_dances(n, 2):
                for function in (tours, count_tours):
                    with self.assertRaises(BadDance):
                        function(dance)
                self.assertEqual(len(yard(dance)), 2 * n)


class WrongDances(unittest.TestCase):
    def test_of_all_functions(self):
        for value in WRONG_DANCES + [nested(kind, deep) for kind in (tuple, list, dict) for deep in range(31)]:
            for function in (hall_of_dance, least_dance, yard, tours, count_tours):
                with self.assertRaises(BadDance):
                    function(value)
            for x in (0, 1, None, -1, True):
                with self.assertRaises(BadDance):
                    turned_dance(value, x)

    def test_persons(self):
        for dance in ((0, 0), (0, 1, 0, 1), tuple(range(8)) * 2):
            for x in [*WRONG, len(dance) // 2, 99, [0], (0,), "1"]:
                with self.assertRaises(NoPerson):
                    turned_dance(dance, x)

    def test_all_short_tuples(self):
        """Of all tuples of up to four numbers just the dances are taken."""
        for many in range(5):
            for value in itertools.product((-1, 0, 1, 2), repeat=many):
                right = many > 0 and many % 2 == 0 and sorted(value) == sorted([*range(many // 2)] * 2)
                try:
                    hall_of_dance(value)
                except BadDance:
                    self.assertIs(right, False)
                else:
                    self.assertIs(right, True)


class Turns(unittest.TestCase):
    def test_rows_of_turns(self):
        """The turns of a row, done with a dance, lead to a dance of the hall that they lead to."""
        chance = random.Random(22)
        for n in range(1, 9):
            for dance in dancing.some_dances(n, 10):
                hall, told = hall_of_dance(dance), dance
                for _ in range(12):
                    x = chance.randrange(n)
                    hall, told = turned(hall, x), turned_dance(told, x)
                self.assertEqual(hall_of_dance(told), hall)
