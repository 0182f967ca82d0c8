"""Promises [9] and [10]: choices, what they leave over, base rows, halls of choices, thirds, walks."""

import itertools
import random
import unittest

from tests import roads
from tests.hands import all_halls, some_halls
from turnfriends.choosing import base_row, choices, hall_of, left_over, signs_over, third, walk
from turnfriends.halls import is_hall, turned
from turnfriends.looks import added

TRIPLE = (3, ((0, 1), (1, 2)))


def small_halls():
    """All halls of up to 3 people, some of 4 to 6."""
    for n in range(1, 4):
        yield from all_halls(n)
    for n in (4, 5, 6):
        yield from some_halls(n, 4)


def some_choices(hall, many):
    """The choices that leave nothing over, or some of them if there are too many."""
    told = choices(hall)
    if len(told) <= many:
        return told
    return random.Random(len(told)).sample(told, many)


class LeftOver(unittest.TestCase):
    def test_all_choices_of_small_halls(self):
        for hall in small_halls():
            for choice in roads.choices_of(hall[0])[::1 if hall[0] < 5 else 7]:
                rows = left_over(hall, choice)
                self.assertEqual(rows, roads.left_over(hall, choice))
                self.assertEqual(len(rows), 2 ** signs_over(hall, choice))

    def test_up_to_eight_people(self):
        for n in (7, 8):
            for hall in some_halls(n, 3):
                for choice in roads.choices_of(n)[::419]:
                    rows = left_over(hall, choice)
                    self.assertEqual(rows, roads.left_over(hall, choice))
                    self.assertEqual(len(rows), 2 ** signs_over(hall, choice))

    def test_ascending_the_void_one_first(self):
        for hall in small_halls():
            for choice in roads.choices_of(hall[0])[::3]:
                rows = left_over(hall, choice)
                self.assertIs(type(rows), tuple)
                self.assertEqual(rows[0], "." * hall[0])
                self.assertEqual(list(rows), sorted(set(rows)))

    def test_by_hand(self):
        self.assertEqual(left_over((1, ()), "X"), (".", "X"))
        self.assertEqual(left_over((1, ()), "Y"), (".",))
        self.assertEqual([signs_over((1, ()), look) for look in "XYZ"], [1, 0, 0])
        self.assertEqual(left_over((2, ((0, 1),)), "YY"), ("..", "YY"))
        self.assertEqual(left_over((2, ((0, 1),)), "XY"), ("..",))
        self.assertEqual(signs_over((8, ()), "X" * 8), 8)
        self.assertEqual(len(left_over((8, ()), "X" * 8)), 256)
        self.assertEqual(signs_over((8, ()), "XXXXYZXX"), 6)


class Choices(unittest.TestCase):
    def test_those_that_leave_nothing_over(self):
        for hall in small_halls():
            told = tuple(choice for choice in roads.choices_of(hall[0]) if roads.left_over(hall, choice) == ("." * hall[0],))
            self.assertEqual(choices(hall), told)

    def test_ascending_and_z_for_all(self):
        for n in range(1, 9):
            for hall in some_halls(n, 3):
                told = choices(hall)
                self.assertIs(type(told), tuple)
                self.assertEqual(list(told), sorted(set(told)))
                self.assertIn("Z" * n, told)
                for choice in told[::97]:
                    self.assertEqual(signs_over(hall, choice), 0)
                self.assertEqual(sum(signs_over(hall, choice) == 0 for choice in roads.choices_of(n)[::11]),
                                 sum(choice in told for choice in roads.choices_of(n)[::11]))

    def test_by_hand(self):
        self.assertEqual(choices((1, ())), ("Y", "Z"))
        self.assertEqual(choices((2, ())), ("YY", "YZ", "ZY", "ZZ"))
        self.assertEqual(choices((2, ((0, 1),))), ("XX", "XY", "YX", "YZ", "ZY", "ZZ"))
        self.assertEqual(len(choices((8, ()))), 256)
        self.assertEqual(len(choices((8, ((0, 1), (2, 3), (4, 5), (6, 7))))), 6 ** 4)


class Bases(unittest.TestCase):
    def test_the_one_row(self):
        for hall in small_halls():
            for choice in some_choices(hall, 60):
                for x in range(hall[0]):
                    self.assertEqual([base_row(hall, choice, x)], roads.base_rows(hall, choice, x))

    def test_up_to_eight_people(self):
        for n in (7, 8):
            for hall in some_halls(n, 3):
                for choice in some_choices(hall, 4):
                    for x in range(n):
                        self.assertEqual([base_row(hall, choice, x)], roads.base_rows(hall, choice, x))

    def test_z_for_all(self):
        for hall in small_halls():
            for x in range(hall[0]):
                self.assertEqual(base_row(hall, "Z" * hall[0], x), roads.own_row(hall, x))
            self.assertEqual(hall_of(hall, "Z" * hall[0]), hall)

    def test_by_hand(self):
        self.assertEqual(base_row((1, ()), "Y", 0), "X")
        self.assertEqual([base_row((2, ((0, 1),)), "XX", x) for x in (0, 1)], ["ZX", "XZ"])
        self.assertEqual([base_row((2, ((0, 1),)), "XY", x) for x in (0, 1)], ["YY", "XZ"])
        self.assertEqual([base_row(TRIPLE, "XYZ", x) for x in (0, 1, 2)], ["YYZ", "XZ.", "X.X"])

    def test_halls_of_choices(self):
        for hall in small_halls():
            for choice in some_choices(hall, 60):
                told = hall_of(hall, choice)
                self.assertEqual(told, roads.hall_of(hall, choice))
                self.assertIs(is_hall(told), True)

    def test_halls_of_up_to_eight(self):
        for n in (7, 8):
            for hall in some_halls(n, 3):
                for choice in some_choices(hall, 4):
                    self.assertEqual(hall_of(hall, choice), roads.hall_of(hall, choice))


class Thirds(unittest.TestCase):
    def hold(self, hall, choice):
        for x in range(hall[0]):
            told = third(hall, choice, x)
            self.assertEqual((told[:x], told[x + 1:]), (choice[:x], choice[x + 1:]))
            self.assertEqual({told[x], choice[x], base_row(hall, choice, x)[x]}, set("XYZ"))
            self.assertEqual(signs_over(hall, told), 0)
            self.assertEqual(hall_of(hall, told), turned(hall_of(hall, choice), x))
            self.assertEqual(third(hall, told, x), choice)

    def test_all_choices_of_small_halls(self):
        for hall in small_halls():
            for choice in some_choices(hall, 60):
                self.hold(hall, choice)

    def test_up_to_eight_people(self):
        for n in (7, 8):
            for hall in some_halls(n, 4):
                for choice in some_choices(hall, 10):
                    self.hold(hall, choice)

    def test_by_hand(self):
        self.assertEqual([third((1, ()), choice, 0) for choice in ("Y", "Z")], ["Z", "Y"])
        self.assertEqual([third((2, ((0, 1),)), "ZZ", x) for x in (0, 1)], ["YZ", "ZY"])
        self.assertEqual([third((2, ((0, 1),)), "XX", x) for x in (0, 1)], ["YX", "XY"])
        self.assertEqual(third(TRIPLE, "XYZ", 0), "ZYZ")


class Walks(unittest.TestCase):
    def hold(self, hall, choice, other):
        row = walk(hall, choice, other)
        self.assertIs(type(row), tuple)
        self.assertLessEqual(len(row), 3 * hall[0] // 2)
        for x in row:
            choice = third(hall, choice, x)
        self.assertEqual(choice, other)
        return row

    def test_any_two_choices_of_small_halls(self):
        for n in range(1, 4):
            for hall in all_halls(n):
                for choice, other in itertools.product(choices(hall), repeat=2):
                    self.hold(hall, choice, other)

    def test_up_to_eight_people(self):
        for n in range(4, 9):
            for hall in some_halls(n, 8):
                for choice, other in itertools.product(some_choices(hall, 12), repeat=2):
                    self.hold(hall, choice, other)

    def test_from_z_for_all(self):
        for n in (4, 5):
            for hall in some_halls(n, 10):
                for other in choices(hall):
                    row = self.hold(hall, "Z" * n, other)
                    behind = hall
                    for x in row:
                        behind = turned(behind, x)
                    self.assertEqual(hall_of(hall, other), behind)

    def test_longest(self):
        self.assertIn(walk((2, ((0, 1),)), "ZZ", "XX"), ((0, 1, 0), (1, 0, 1)))
        four = (8, ((0, 1), (2, 3), (4, 5), (6, 7)))
        self.assertEqual(len(self.hold(four, "Z" * 8, "X" * 8)), 12)

    def test_nowhere(self):
        for hall in small_halls():
            for choice in some_choices(hall, 30):
                self.assertEqual(walk(hall, choice, choice), ())


class Parity(unittest.TestCase):
    def test_three_looks_of_a_person(self):
        """Of the three choices that are unlike at one person alone, none or two leave nothing over."""
        for hall in small_halls():
            told = set(choices(hall))
            for rest in roads.choices_of(hall[0] - 1)[:40]:
                for x in range(hall[0]):
                    three = [rest[:x] + look + rest[x:] for look in "XYZ"]
                    self.assertIn(len(told.intersection(three)), (0, 2))

    def test_sums_of_base_rows(self):
        """The base rows bring forth the whole room."""
        for hall in small_halls():
            for choice in some_choices(hall, 5):
                rows = {"." * hall[0]}
                for x in range(hall[0]):
                    rows |= {added(row, base_row(hall, choice, x)) for row in rows}
                self.assertEqual(tuple(sorted(rows)), roads.room(hall))
