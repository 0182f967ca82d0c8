"""Promises [13] and [14]: whether turns lead to another hall, by which ones, and papers that show it."""

import copy
import itertools
import random
import unittest
from unittest import mock

from tests import roads
from tests.hands import WRONG, WRONG_HALLS, all_halls, nested, pairs_of, some_halls
from turnfriends.errors import NoWay
from turnfriends.halls import ranks, turned
from turnfriends.leading import judged, leads, paper, turns_to
from turnfriends.naming import count_answers

HALL, LED, UNLED = (3, ((0, 1), (1, 2))), (3, ((0, 1), (0, 2))), (3, ((0, 1),))


def drawn(n, many):
    """Pairs of halls of which one leads to the other by turns, and pairs of any two."""
    chance = random.Random(n)
    halls = list(some_halls(n, many))
    for hall in halls:
        other = hall
        for _ in range(chance.randrange(12)):
            other = roads.turned(other, chance.randrange(n))
        yield hall, other
        yield hall, chance.choice(halls)


def behind(hall, row):
    for x in row:
        hall = roads.turned(hall, x)
    return hall


class Leads(unittest.TestCase):
    def test_all_pairs_of_up_to_four(self):
        for n in range(1, 5):
            for hall, other in itertools.product(all_halls(n), repeat=2):
                self.assertIs(leads(hall, other), other in roads.class_of(hall))

    def test_by_answers(self):
        for n in range(1, 5):
            for hall, other in itertools.product(some_halls(n, 10), all_halls(n)):
                self.assertIs(leads(hall, other), count_answers(hall, other) > 0)

    def test_all_changes_gone_through(self):
        for n in range(1, 4):
            for hall, other in itertools.product(all_halls(n), repeat=2):
                told = any(roads.is_answer(hall, other, change) for change in roads.changes(n))
                self.assertIs(leads(hall, other), told)

    def test_five_and_six_people(self):
        for n in (5, 6):
            for hall, other in drawn(n, 25):
                told = leads(hall, other)
                self.assertIs(told, other in roads.class_of(hall))
                self.assertIs(told, count_answers(hall, other) > 0)

    def test_seven_and_eight_people(self):
        for n in (7, 8):
            for k, (hall, other) in enumerate(drawn(n, 8)):
                if k % 2 == 0 or ranks(hall) != ranks(other):
                    self.assertIs(leads(hall, other), k % 2 == 0 or hall == other)

    def test_by_hand(self):
        everybody, star = (8, tuple(pairs_of(8))), (8, tuple((5, x) if x > 5 else (x, 5) for x in range(8) if x != 5))
        self.assertIs(leads(everybody, (8, tuple(sorted(star[1])))), True)
        self.assertIs(leads(everybody, (8, ())), False)
        self.assertIs(leads((1, ()), (1, ())), True)
        self.assertIs(leads((2, ()), (2, ((0, 1),))), False)
        # The two paths of four people with other ends are not led to one another, though they look alike.
        self.assertIs(leads((4, ((0, 1), (1, 2), (2, 3))), (4, ((0, 2), (1, 2), (1, 3)))), False)
        self.assertIs(leads((4, ((0, 1), (1, 2), (2, 3))), (4, ((0, 1), (0, 3), (2, 3)))), True)


class TurnsTo(unittest.TestCase):
    def hold(self, hall, other):
        row = turns_to(hall, other)
        self.assertIs(type(row), tuple)
        self.assertLessEqual(len(row), 3 * hall[0] // 2)
        self.assertEqual(behind(hall, row), other)

    def test_all_pairs_of_up_to_four(self):
        for n in range(1, 5):
            for hall in all_halls(n):
                for other in roads.class_of(hall):
                    self.hold(hall, other)

    def test_all_that_come_of_five_and_six(self):
        for n in (5, 6):
            for hall in some_halls(n, 3):
                for other in roads.class_of(hall):
                    self.hold(hall, other)

    def test_seven_and_eight_people(self):
        for n in (7, 8):
            for hall, other in list(drawn(n, 12))[::2]:
                self.hold(hall, other)

    def test_no_way(self):
        for n in range(1, 5):
            for hall, other in itertools.product(some_halls(n, 6), all_halls(n)):
                if other not in roads.class_of(hall):
                    with self.assertRaises(NoWay):
                        turns_to(hall, other)
        with self.assertRaises(NoWay):
            turns_to((8, ()), (8, ((0, 1),)))


class Papers(unittest.TestCase):
    def hold(self, hall, other):
        told = paper(hall, other)
        self.assertIs(type(told), tuple)
        self.assertIs(judged(hall, other, told), True)
        unlike = [lot for lot in roads.lots(hall[0]) if roads.rank_of(hall, lot) != roads.rank_of(other, lot)]
        if unlike:
            self.assertEqual(told, ("ranks", unlike[0]))
        else:
            self.assertEqual((len(told), told[0]), (2, "turns"))
            self.assertLessEqual(len(told[1]), 3 * hall[0] // 2)
            self.assertEqual(behind(hall, told[1]), other)

    def test_all_pairs_of_up_to_three(self):
        for n in range(1, 4):
            for hall, other in itertools.product(all_halls(n), repeat=2):
                self.hold(hall, other)

    def test_four_people(self):
        for hall, other in itertools.product(some_halls(4, 12), all_halls(4)):
            self.hold(hall, other)

    def test_up_to_seven_people(self):
        for n in (5, 6, 7):
            for hall, other in drawn(n, 6):
                self.hold(hall, other)

    def test_by_hand(self):
        self.assertEqual(paper(HALL, (3, ())), ("ranks", (0,)))
        self.assertEqual(paper((2, ()), (2, ((0, 1),))), ("ranks", (0,)))
        # The lots by their numbers: (), (0,), (1,), (0, 1), (2,), (0, 2).
        self.assertEqual(paper((3, ((0, 1),)), (3, ((0, 1), (0, 2)))), ("ranks", (0, 1)))
        self.assertEqual(paper((4, ((0, 1), (2, 3))), (4, ((0, 2), (1, 3)))), ("ranks", (0, 1)))
        self.assertEqual(paper((4, ((0, 1), (2, 3))), (4, ((0, 1),))), ("ranks", (2,)))
        self.assertEqual(paper((8, ((0, 1), (6, 7))), (8, ((0, 1),))), ("ranks", (6,)))

    def test_none(self):
        """No two halls of up to eight people are at hand whose ranks are equal and that don't lead to one another:
        it is as if all ranks were."""
        with mock.patch("turnfriends.leading.ranks", lambda hall: (0,) * 2 ** hall[0]):
            self.assertEqual(paper(HALL, UNLED), ("none",))
            self.assertEqual(paper(HALL, LED)[0], "turns")
        self.assertEqual(paper(HALL, UNLED), ("ranks", (0, 1)))


def rotted(told):
    """Papers that are like a true one but for one thing."""
    kind, shown = told
    yield from [(kind,), (kind, shown, shown), (shown, kind), [kind, shown], kind, shown, (kind, list(shown)), (kind, kind)]
    yield from [(other, shown) for other in ("turn", "rank", "none", "", "Turns", None, True, 0, ())]
    yield from [(kind, (*shown, wrong)) for wrong in (-1, 3, 10 ** 30, None, True, False, "0", (0,), [])]
    yield from [(kind, None), (kind, {}), (kind, nested(tuple, 29)), {kind: shown}, (told,), ((kind,), shown)]


class Judged(unittest.TestCase):
    def judges(self, told, hall, other, handed):
        before = copy.deepcopy(handed)
        self.assertIs(judged(hall, other, handed), told)
        self.assertEqual(handed, before)

    def test_turns(self):
        for n in range(1, 4):
            for hall, other in itertools.product(all_halls(n), repeat=2):
                for many in range(4):
                    for row in itertools.product(range(n), repeat=many):
                        self.judges(behind(hall, row) == other, hall, other, ("turns", row))

    def test_ranks(self):
        for n in range(1, 5):
            for hall, other in itertools.product(some_halls(n, 6), all_halls(n)):
                for lot in roads.lots(n):
                    told = roads.rank_of(hall, lot) != roads.rank_of(other, lot)
                    self.judges(told, hall, other, ("ranks", lot))

    def test_none(self):
        for n in range(1, 5):
            for hall, other in itertools.product(some_halls(n, 6), all_halls(n)):
                self.judges(other not in roads.class_of(hall), hall, other, ("none",))
        self.judges(True, (8, ()), (8, ((0, 1),)), ("none",))
        self.judges(False, (8, ((0, 1), (0, 2))), (8, ((0, 1), (1, 2))), ("none",))

    def test_two_hundred_turns_at_most(self):
        self.judges(True, HALL, HALL, ("turns", (0,) * 200))
        self.judges(True, HALL, turned(HALL, 1), ("turns", (1,) * 199))
        self.judges(False, HALL, HALL, ("turns", (1,) * 199))
        self.judges(False, HALL, HALL, ("turns", (0,) * 201))
        self.judges(False, HALL, HALL, ("turns", (0,) * 202))

    def test_lots_ascend(self):
        hall, other = (4, ((0, 1), (2, 3))), (4, ((0, 2), (1, 3)))
        self.judges(True, hall, other, ("ranks", (0, 1)))
        self.judges(True, hall, other, ("ranks", (2, 3)))
        for lot in ((1, 0), (3, 2), (0, 0, 1), (0, 1, 1), (0, 4), (4,), (0, 1, 2, 3, 4), (-1, 0), (0, True)):
            self.judges(False, hall, other, ("ranks", lot))
        self.judges(False, hall, other, ("ranks", (0,)))
        self.judges(False, hall, other, ("ranks", ()))
        self.judges(False, hall, other, ("ranks", (0, 1, 2, 3)))

    def test_papers_with_one_thing_changed(self):
        for hall, other in ((HALL, LED), (HALL, UNLED), (LED, HALL)):
            told = paper(hall, other)
            self.judges(True, hall, other, told)
            for wrong in rotted(told):
                self.judges(False, hall, other, wrong)
        self.judges(False, HALL, LED, ("turns", ()))
        self.judges(False, HALL, LED, ("turns", (1,)))
        self.judges(False, HALL, LED, ("ranks", (0,)))
        self.judges(False, HALL, UNLED, ("turns", (0,)))
        self.judges(False, HALL, UNLED, ("ranks", (0,)))

    def test_any_values(self):
        kinds = [("none",), ("turns", ()), ("ranks", ())]
        for hall, other in ((HALL, LED), (HALL, UNLED), (HALL, HALL)):
            for value in [*WRONG, *WRONG_HALLS, (), "none", "turns", ["none"], {"none": ()}, ("none", ()), ("none", "none")]:
                for handed in (value, (value,), (value, ()), ("turns", value), ("ranks", value), ("none", value)):
                    if handed not in kinds:
                        row = handed[1] if type(handed) is tuple and len(handed) == 2 else None
                        self.judges(is_true(hall, other, handed[0], row) if row else False, hall, other, handed)
        for kind in (tuple, list, dict):
            for deep in range(31):
                self.judges(False, HALL, UNLED, nested(kind, deep))
                self.judges(False, HALL, UNLED, (nested(kind, deep), nested(kind, deep)))


def is_true(hall, other, kind, row):
    """Whether a row or a lot among the values handed in happens to be right."""
    if type(row) is not tuple or not all(type(x) is int and 0 <= x < hall[0] for x in row):
        return False
    if kind == "turns":
        return behind(hall, row) == other
    lot = kind == "ranks" and row in roads.lots(hall[0])
    return lot and roads.rank_of(hall, row) != roads.rank_of(other, row)
