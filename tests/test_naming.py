"""Promises [11] and [12]: changes of names, answers, equations, free signs."""

import itertools
import random
import unittest

from tests import roads
from tests.hands import all_halls, pairs_of, some_halls
from turnfriends.halls import renamed, turned
from turnfriends.looks import added
from turnfriends.naming import answers, changed, count_answers, equations, free_signs

TRIPLE = (3, ((0, 1), (1, 2)))
ANY = ["XYZ", "XZY", "YXZ", "YZX", "ZXY", "ZYX"]


def small_pairs():
    """All pairs of halls of up to three people."""
    for n in range(1, 4):
        yield from itertools.product(all_halls(n), repeat=2)


def met(equation, told):
    """Whether an equation holds for some signs."""
    return sum(both[0] * both[1] for both in zip(equation, told)) % 2 == 0


class Changes(unittest.TestCase):
    def test_one_person(self):
        for told in ANY:
            self.assertEqual([changed(look, (told,)) for look in ".XYZ"], [".", *told])

    def test_all_rows_of_two_people(self):
        for change in roads.changes(2):
            for row in roads.rows_of_looks(2):
                self.assertEqual(changed(row, change), roads.changed(row, change))

    def test_rows_of_up_to_eight(self):
        chance = random.Random(8)
        for n in range(1, 9):
            for _ in range(30):
                row = "".join(chance.choice(".XYZ") for _ in range(n))
                change = tuple(chance.choice(ANY) for _ in range(n))
                self.assertEqual(changed(row, change), roads.changed(row, change))

    def test_by_hand(self):
        self.assertEqual(changed("XYZ.", ("YZX",) * 4), "YZX.")
        self.assertEqual(changed("XXXXXX", tuple(ANY)), "XXYYZZ")
        self.assertEqual(changed("........", ("ZXY",) * 8), "........")

    def test_sums_go_along(self):
        change = ("YZX", "ZYX", "XZY")
        for one, other in itertools.product(roads.rows_of_looks(3)[::5], roads.rows_of_looks(3)[::7]):
            self.assertEqual(changed(added(one, other), change), added(changed(one, change), changed(other, change)))


class Answers(unittest.TestCase):
    def test_all_changes_gone_through(self):
        for hall, other in small_pairs():
            told = tuple(change for change in roads.changes(hall[0]) if roads.is_answer(hall, other, change))
            self.assertEqual(answers(hall, other), told)
            self.assertEqual(count_answers(hall, other), len(told))

    def test_four_people(self):
        chance = random.Random(4)
        for hall in some_halls(4, 6):
            other = turned(turned(hall, chance.randrange(4)), chance.randrange(4))
            told = tuple(change for change in roads.changes(4) if roads.is_answer(hall, other, change))
            self.assertEqual(answers(hall, other), told)
            self.assertGreater(len(told), 0)

    def test_lead_the_room(self):
        chance = random.Random(5)
        for n in range(5, 9):
            for hall in some_halls(n, 4):
                other = hall
                for _ in range(5):
                    other = turned(other, chance.randrange(n))
                told = answers(hall, other)
                self.assertEqual(list(told), sorted(set(told)))
                self.assertEqual(count_answers(hall, other), len(told))
                self.assertGreater(len(told), 0)
                for change in told[::max(1, len(told) // 5)]:
                    self.assertTrue(roads.is_answer(hall, other, change))

    def test_all_looks_stay(self):
        for n in range(1, 9):
            for hall in some_halls(n, 3):
                self.assertIn(("XYZ",) * n, answers(hall, hall))

    def test_both_ways_just_as_many(self):
        for hall, other in small_pairs():
            self.assertEqual(count_answers(hall, other), count_answers(other, hall))

    def test_turns_change_no_number(self):
        for n in range(4, 7):
            for hall in some_halls(n, 4):
                for x in range(n):
                    self.assertEqual(count_answers(hall, turned(hall, x)), count_answers(hall, hall))

    def test_by_hand(self):
        self.assertEqual(answers((1, ()), (1, ())), (("XYZ",), ("XZY",)))
        self.assertEqual(answers((2, ()), (2, ((0, 1),))), ())
        self.assertEqual(count_answers((2, ()), (2, ((0, 1),))), 0)
        pair = (2, ((0, 1),))
        self.assertEqual([one for one, other in answers(pair, pair)], ANY)
        for one, other in answers(pair, pair):
            # The room's rows are XZ, YY, ZX.
            self.assertEqual({one[0] + other[2], one[1] + other[1], one[2] + other[0]}, {"XZ", "YY", "ZX"})

    def test_numbers_by_hand(self):
        self.assertEqual(count_answers((8, ()), (8, ())), 2 ** 8)
        four = (8, ((0, 1), (2, 3), (4, 5), (6, 7)))
        self.assertEqual(count_answers(four, four), 6 ** 4)
        everybody = (8, tuple(pairs_of(8)))
        star = (8, tuple((0, x) for x in range(1, 8)))
        self.assertEqual([count_answers(everybody, everybody), count_answers(star, everybody)], [2 ** 7, 2 ** 7])
        self.assertEqual(count_answers(four, renamed(four, (0, 2, 1, 3, 4, 5, 6, 7))), 0)
        self.assertEqual(answers(star, (8, ())), ())


class Equations(unittest.TestCase):
    def test_answers_are_what_they_tell(self):
        for hall, other in small_pairs():
            told = equations(hall, other)
            kept = [change for change in roads.changes(hall[0]) if all(met(row, roads.signs(change)) for row in told)]
            self.assertEqual(answers(hall, other), tuple(kept))

    def test_four_people(self):
        for hall, other in zip(some_halls(4, 6), some_halls(4, 6)):
            for aim in (other, turned(other, 1), turned(turned(other, 0), 3), (4, ((0, 1),))):
                told = equations(hall, aim)
                kept = [change for change in roads.changes(4) if all(met(row, roads.signs(change)) for row in told)]
                self.assertEqual(answers(hall, aim), tuple(kept))

    def hold(self, hall, other):
        """Each coefficient: whether the sign alone makes the one own row, changed, meet the other one oddly."""
        n = hall[0]
        told = equations(hall, other)
        self.assertEqual(len(told), n * n)
        for x, y in itertools.product(range(n), repeat=2):
            row, aim = roads.own_row(hall, x), roads.own_row(other, y)
            expected = []
            for p in range(n):
                for look, goes in (("X", "X"), ("X", "Z"), ("Z", "X"), ("Z", "Z")):
                    expected.append(int(row[p] == look and roads.meet_oddly(goes, aim[p])))
            self.assertEqual(told[x * n + y], tuple(expected))

    def test_order_of_the_coefficients(self):
        for hall, other in small_pairs():
            self.hold(hall, other)

    def test_up_to_eight_people(self):
        for n in range(4, 9):
            halls = list(some_halls(n, 5))
            for hall, other in itertools.product(halls, halls[::2]):
                self.hold(hall, other)

    def test_by_hand(self):
        self.assertEqual(equations((1, ()), (1, ())), ((0, 1, 0, 0),))
        pair, strangers = (2, ((0, 1),)), (2, ())
        self.assertEqual(equations(pair, strangers), (
            (0, 1, 0, 0, 0, 0, 0, 0), (0, 0, 0, 0, 0, 0, 0, 1), (0, 0, 0, 1, 0, 0, 0, 0), (0, 0, 0, 0, 0, 1, 0, 0),
        ))
        self.assertEqual(equations(strangers, pair), (
            (0, 1, 0, 0, 0, 0, 0, 0), (1, 0, 0, 0, 0, 0, 0, 0), (0, 0, 0, 0, 1, 0, 0, 0), (0, 0, 0, 0, 0, 1, 0, 0),
        ))

    def test_tuples_of_noughts_and_ones(self):
        for hall in some_halls(5, 3):
            told = equations(hall, turned(hall, 0))
            self.assertIs(type(told), tuple)
            for row in told:
                self.assertIs(type(row), tuple)
                self.assertEqual(len(row), 20)
                self.assertTrue(all(type(sign) is int and sign in (0, 1) for sign in row))


class FreeSigns(unittest.TestCase):
    def test_rank_by_the_other_road(self):
        for hall, other in small_pairs():
            self.assertEqual(free_signs(hall, other), 4 * hall[0] - roads.rank(equations(hall, other)))

    def test_by_all_signs(self):
        """Of all signs 2 ** free_signs fulfil the equations."""
        for hall, other in small_pairs():
            if hall[0] < 3:
                told = equations(hall, other)
                every = itertools.product((0, 1), repeat=4 * hall[0])
                many = sum(all(met(row, signs) for row in told) for signs in every)
                self.assertEqual(many, 2 ** free_signs(hall, other))

    def test_up_to_eight_people(self):
        """Sums of equations that are 0 for all signs: as many as 2 ** (their number less their rank)."""
        for n in range(4, 9):
            halls = list(some_halls(n, 6))
            for hall, other in zip(halls, halls[1:] + halls[:1]):
                for aim in (hall, other, turned(hall, n - 1)):
                    self.assertEqual(free_signs(hall, aim), 4 * n - rank_by_columns(equations(hall, aim)))

    def test_by_hand(self):
        self.assertEqual(free_signs((1, ()), (1, ())), 3)
        self.assertEqual(free_signs((8, ()), (8, ())), 24)
        self.assertEqual(free_signs((2, ((0, 1),)), (2, ())), 4)


def rank_by_columns(table):
    """The rank, column by column: a row with a 1 there goes, and is added to the others that have one."""
    rows = [list(row) for row in table]
    rank = 0
    for column in range(len(rows[0])):
        lead = next((row for row in rows if row[column]), None)
        if lead:
            rank += 1
            rows.remove(lead)
            rows = [[(a + b) % 2 for a, b in zip(row, lead)] if row[column] else row for row in rows]
    return rank
