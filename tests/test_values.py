"""Promise [1] for halls: any values, the errors in the order of the parameters, nothing changed."""

import copy
import unittest

from tests.hands import HUGE, WRONG, WRONG_HALLS, WRONG_PERSONS, nested
from turnfriends.errors import BadHall, BadLot, BadOrder, BadRow, HallError, NoPerson, NotFriends
from turnfriends.halls import friends, is_hall, parts, rank_of, ranks, renamed, swapped, turned, turned_all
from turnfriends.values import are_persons, is_person, is_whole

HALL = (3, ((0, 1), (1, 2)))
PERSON, ROW, LOT, ORDER = (0, NoPerson), ((0, 1), BadRow), ((0, 1), BadLot), ((2, 0, 1), BadOrder)

# Each function with a right value for each further parameter, and the error told for it.
FURTHER = {
    friends: [PERSON], turned: [PERSON], turned_all: [ROW], swapped: [PERSON, (1, NoPerson)], rank_of: [LOT], ranks: [],
    parts: [], renamed: [ORDER],
}

WRONG_ROWS = [*WRONG, 0, 3, "012", [0, 1], {0: 0}, (3,), (0, 3), (0, 1, -1), (0, "1"), (0, (1,)), (0, 1, True), (0,) * 201]
WRONG_LOTS = [
    *WRONG, 0, "01", [0, 1], {0: 0}, (1, 0), (0, 0), (0, 2, 1), (0, 1, 1), (0, 3), (3,), (0, 1, 2, 3), (0, 1, 2, 2),
    (False,), (0, True, 2), ((0, 1),),
]
WRONG_ORDERS = [
    *WRONG, 0, "012", (), [0, 1, 2], {0: 0, 1: 1, 2: 2}, (0,), (0, 1), (0, 1, 1), (0, 1, 2, 2), (0, 1, 2, 3), (1, 2, 3),
    (0, 0, 0), (0, 1, "2"), (0, True, 2), (False, 1, 2), (0, 1, None), (0, 1, (2,)), (0, 1, HUGE),
]
WRONGS = {NoPerson: [*WRONG_PERSONS, 3], BadRow: WRONG_ROWS, BadLot: WRONG_LOTS, BadOrder: WRONG_ORDERS}


class Values(unittest.TestCase):
    def fails(self, error, function, *handed):
        """The very error is raised, and nothing that is handed in is changed."""
        before = copy.deepcopy(handed)
        with self.assertRaises(HallError) as caught:
            function(*handed)
        self.assertIs(type(caught.exception), error)
        self.assertEqual(handed, before)

    def test_right_values_raise_nothing(self):
        for function, further in FURTHER.items():
            function(HALL, *[value for value, _ in further])

    def test_is_hall_of_any_value(self):
        for value in WRONG_HALLS:
            before = copy.deepcopy(value)
            self.assertIs(is_hall(value), False)
            self.assertEqual(value, before)

    def test_wrong_halls(self):
        for function, further in FURTHER.items():
            for value in WRONG_HALLS:
                self.fails(BadHall, function, value, *[right for right, _ in further])

    def test_each_further_parameter(self):
        for function, further in FURTHER.items():
            for k, (_, error) in enumerate(further):
                for value in WRONGS[error]:
                    handed = [right for right, _ in further]
                    handed[k] = value
                    self.fails(error, function, HALL, *handed)

    def test_the_hall_is_told_first(self):
        for function, further in FURTHER.items():
            for value in WRONG:
                self.fails(BadHall, function, value, *[value for _ in further])

    def test_swap_tells_persons_before_friends(self):
        self.fails(NoPerson, swapped, HALL, 0, 3)
        self.fails(NoPerson, swapped, HALL, 3, 0)
        self.fails(NoPerson, swapped, HALL, 3, 3)
        self.fails(NoPerson, swapped, (1, ()), 1, 0)
        self.fails(NotFriends, swapped, HALL, 0, 2)
        self.fails(NotFriends, swapped, HALL, 1, 1)
        self.fails(NotFriends, swapped, (1, ()), 0, 0)
        self.fails(BadHall, swapped, (3, ((1, 0),)), 0, 2)

    def test_bools_are_no_integers(self):
        self.assertIs(is_hall((True, ())), False)
        self.fails(NoPerson, friends, HALL, True)
        self.fails(NoPerson, swapped, HALL, False, 1)
        self.fails(NoPerson, swapped, HALL, 0, True)
        self.fails(BadRow, turned_all, HALL, (0, False))
        self.fails(BadLot, rank_of, HALL, (False, True))
        self.fails(BadOrder, renamed, HALL, (False, True, 2))

    def test_helpers_of_any_value(self):
        for value in [*WRONG, 0, 1, 3, (), (0,), (3,)]:
            for n in [*WRONG, 0, 1, 3, ()]:
                number = type(n) is int and n > 0
                self.assertIs(is_whole(value), type(value) is int)
                self.assertIs(is_person(value, n), type(value) is int and number and value in range(n))
                self.assertIs(type(are_persons(value, n)), bool)

    def test_deep_values(self):
        for kind in (tuple, list, dict):
            for deep in range(31):
                value = nested(kind, deep)
                self.assertIs(is_hall(value), False)
                self.fails(BadHall, turned, value, value)
                self.fails(NoPerson, turned, HALL, value)

    def test_equal_calls_equal_answers(self):
        for function, further in FURTHER.items():
            handed = [HALL, *[right for right, _ in further]]
            self.assertEqual(function(*handed), function(*copy.deepcopy(handed)))

    def test_answers_are_tuples_throughout(self):
        for told in (
            friends(HALL, 1), turned(HALL, 1), turned(HALL, 1)[1], turned(HALL, 1)[1][0], turned_all(HALL, ())[1],
            swapped(HALL, 0, 1), swapped(HALL, 0, 1)[1][0], ranks(HALL), parts(HALL), parts(HALL)[0],
            renamed(HALL, (1, 0, 2)), renamed(HALL, (1, 0, 2))[1][0],
        ):
            self.assertIs(type(told), tuple)
        self.assertIs(type(rank_of(HALL, (0,))), int)
