"""Promise [23]: the sums over all lots and over all choices."""

import random
import unittest

from tests import roads
from tests.hands import all_halls, pairs_of, some_halls
from turnfriends.choosing import choices
from turnfriends.halls import friends, swapped, turned
from turnfriends.leaving import left
from turnfriends.sums import sum_of_choices, sum_of_lots

# As many places as there are numbers to be told tell a sum of powers.
PLACES = range(-3, 9)

BY_HAND = [
    ((1, ()), (0, 1), (0, 1)),
    ((2, ()), (0, 0, 1), (0, 0, 1)),
    ((2, ((0, 1),)), (0, 2), (0, 3)),
    ((3, ()), (0, 0, 0, 1), (0, 0, 0, 1)),
    ((3, ((0, 1),)), (0, 0, 2), (0, 0, 3)),
    ((3, ((0, 2),)), (0, 0, 2), (0, 0, 3)),
    ((3, ((1, 2),)), (0, 0, 2), (0, 0, 3)),
    # The void lot 1, those of one person 3 (x - 1), two pairs of friends 2, two strangers (x - 1) (x - 1), all x - 1.
    ((3, ((0, 1), (1, 2))), (0, 2, 1), (0, 6, 1)),
    ((3, ((0, 1), (0, 2))), (0, 2, 1), (0, 6, 1)),
    ((3, ((0, 2), (1, 2))), (0, 2, 1), (0, 6, 1)),
    # 1 + 3 (x - 1) + 3 + (x - 1).
    ((3, ((0, 1), (0, 2), (1, 2))), (0, 4), (0, 6, 1)),
]


def worth(numbers, x):
    return sum(number * x ** k for k, number in enumerate(numbers))


def lacking(hall, lot):
    """The people of a lot, less the rank of the table of who of them is whose friend."""
    return len(lot) - roads.rank([[int(roads.are_friends(hall, y, z)) for z in lot] for y in lot])


def over(hall, choice):
    """2 ** k rows are left over."""
    return len(roads.left_over(hall, choice)).bit_length() - 1


def whole_choices(hall):
    return sum(over(hall, choice) == 0 for choice in roads.choices_of(hall[0]))


def drawn_halls():
    for n in range(1, 9):
        yield from some_halls(n, 6)


class Sums(unittest.TestCase):
    def test_by_hand(self):
        for hall, by_lots, by_choices in BY_HAND:
            self.assertEqual(sum_of_lots(hall), by_lots)
            self.assertEqual(sum_of_choices(hall), by_choices)

    def test_all_halls_of_up_to_three_are_reckoned_by_hand(self):
        self.assertEqual([hall for n in range(1, 4) for hall in all_halls(n) if hall not in [told[0] for told in BY_HAND]], [])

    def test_lots_at_places(self):
        for n in range(1, 6):
            for hall in all_halls(n) if n < 5 else some_halls(n, 20):
                numbers = sum_of_lots(hall)
                self.assertLessEqual(len(numbers), n + 1)
                powers = [lacking(hall, lot) for lot in roads.lots(n)]
                for x in PLACES:
                    self.assertEqual(worth(numbers, x), sum((x - 1) ** power for power in powers))

    def test_choices_at_places(self):
        for n in range(1, 5):
            for hall in all_halls(n):
                numbers = sum_of_choices(hall)
                self.assertLessEqual(len(numbers), n + 1)
                powers = [over(hall, choice) for choice in roads.choices_of(n)]
                for x in PLACES:
                    self.assertEqual(worth(numbers, x), sum((x - 2) ** power for power in powers))

    def test_kinds(self):
        for hall in drawn_halls():
            for numbers in (sum_of_lots(hall), sum_of_choices(hall)):
                self.assertIs(type(numbers), tuple)
                self.assertTrue(all(type(number) is int for number in numbers))

    def test_no_noughts_at_the_end(self):
        for hall in [*drawn_halls(), *all_halls(4)]:
            self.assertNotEqual(sum_of_lots(hall)[-1], 0)
            self.assertNotEqual(sum_of_choices(hall)[-1], 0)

    def test_turns_keep_the_second(self):
        for n in range(1, 5):
            for hall in all_halls(n):
                for x in range(n):
                    self.assertEqual(sum_of_choices(turned(hall, x)), sum_of_choices(hall))
        chance = random.Random(23)
        for hall in drawn_halls():
            behind = hall
            for _ in range(9):
                behind = turned(behind, chance.randrange(hall[0]))
            self.assertEqual(sum_of_choices(behind), sum_of_choices(hall))

    def test_swaps_keep_the_first(self):
        for n in range(2, 5):
            for hall in all_halls(n):
                for x, y in hall[1]:
                    self.assertEqual(sum_of_lots(swapped(hall, x, y)), sum_of_lots(hall))
        for hall in drawn_halls():
            for x, y in hall[1]:
                self.assertEqual(sum_of_lots(swapped(hall, x, y)), sum_of_lots(hall))

    def test_turns_need_not_keep_the_first(self):
        self.assertNotEqual(sum_of_lots((3, ((0, 1), (1, 2)))), sum_of_lots(turned((3, ((0, 1), (1, 2))), 1)))

    def test_the_second_at_two(self):
        for n in range(1, 5):
            for hall in all_halls(n):
                self.assertEqual(worth(sum_of_choices(hall), 2), whole_choices(hall))
        for hall in drawn_halls():
            self.assertEqual(worth(sum_of_choices(hall), 2), len(choices(hall)))

    def test_the_second_by_the_three_leavings(self):
        for hall in [hall for n in range(2, 5) for hall in all_halls(n)] + [hall for hall in drawn_halls() if hall[0] > 1]:
            numbers = sum_of_choices(hall)
            for x in range(hall[0]):
                three = [sum_of_choices(left(hall, x, look)) for look in "XYZ"]
                if friends(hall, x):
                    for place in PLACES:
                        self.assertEqual(worth(numbers, place), sum(worth(told, place) for told in three))
                else:
                    self.assertEqual(numbers, (0, *three[2]))

    def test_eight_people(self):
        self.assertEqual([sum_of_lots((8, ())), sum_of_choices((8, ()))], [(0,) * 8 + (1,), (0,) * 8 + (1,)])
        twos = (8, ((0, 1), (2, 3), (4, 5), (6, 7)))
        self.assertEqual([sum_of_lots(twos), sum_of_choices(twos)], [(0, 0, 0, 0, 16), (0, 0, 0, 0, 81)])
        # Everybody a friend of everybody: the rank is that of the people, or one less where they are odd ones.
        self.assertEqual(sum_of_lots((8, tuple(pairs_of(8)))), (0, 128))
        for hall in some_halls(8, 4):
            powers = [lacking(hall, lot) for lot in roads.lots(8)]
            for x in (-1, 0, 2, 3):
                self.assertEqual(worth(sum_of_lots(hall), x), sum((x - 1) ** power for power in powers))
            # There each lot, or each choice, is counted once.
            self.assertEqual([worth(sum_of_lots(hall), 2), worth(sum_of_choices(hall), 3)], [2 ** 8, 3 ** 8])
