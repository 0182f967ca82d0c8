"""Promise [1]: any values, the errors in the order of the parameters, nothing changed."""

import copy
import unittest

from tests import hands
from tests.hands import WRONG, WRONG_HALLS, nested
from turnfriends import choosing, classes, halls, leading, leaving, looks, naming
from turnfriends.errors import (
    BadChange, BadChoice, BadHall, BadLook, BadLooks, BadLot, BadNumber, BadOrder, BadRow, BadWho, HallError, LeavesOver,
    NoPerson, NotFriends, NoWay, Unlike,
)
from turnfriends.halls import is_hall
from turnfriends.values import are_persons, is_person, is_whole

HALL = (3, ((0, 1), (1, 2)))

# For each kind of parameter a right value, the error that is told for wrong ones, and these.
GUEST = (HALL, BadHall, WRONG_HALLS)
OTHER = ((3, ((0, 2),)), BadHall, WRONG_HALLS)
PERSON = (0, NoPerson, [*hands.WRONG_PERSONS, 3])
SECOND = (1, NoPerson, [*hands.WRONG_PERSONS, 3])
ROW = ((0, 1), BadRow, hands.WRONG_ROWS)
LOT = ((0, 1), BadLot, hands.WRONG_LOTS)
ORDER = ((2, 0, 1), BadOrder, hands.WRONG_ORDERS)
ANY_LOOKS = ("XZ.", BadLooks, hands.WRONG_ANY_LOOKS)
LOOKS = (".XX", BadLooks, hands.WRONG_LOOKS)
CHOICE = ("XYZ", BadChoice, hands.WRONG_CHOICES)
LED = ((3, ((0, 1), (0, 2))), BadHall, WRONG_HALLS)
SMALL = ((2, ((0, 1),)), BadHall, WRONG_HALLS)
NUMBER = (3, BadNumber, hands.WRONG_NUMBERS)
LOOK = ("Y", BadLook, hands.WRONG_LOOK_VALUES)
WHO = ((2, 0), BadWho, hands.WRONG_WHOS)
# No value at all is wrong for it.
PAPER = (("none",), None, [])
CHANGE = (("YZX", "XYZ", "ZYX"), BadChange, hands.WRONG_CHANGES)

PARAMETERS = {
    halls.friends: [GUEST, PERSON], halls.turned: [GUEST, PERSON], halls.turned_all: [GUEST, ROW],
    halls.swapped: [GUEST, PERSON, SECOND], halls.rank_of: [GUEST, LOT], halls.ranks: [GUEST], halls.parts: [GUEST],
    halls.renamed: [GUEST, ORDER],
    looks.added: [ANY_LOOKS, LOOKS], looks.meet_oddly: [ANY_LOOKS, LOOKS], looks.own_row: [GUEST, PERSON],
    looks.room: [GUEST], looks.is_in_room: [GUEST, LOOKS],
    choosing.left_over: [GUEST, CHOICE], choosing.signs_over: [GUEST, CHOICE], choosing.choices: [GUEST],
    choosing.base_row: [GUEST, CHOICE, PERSON], choosing.hall_of: [GUEST, CHOICE], choosing.third: [GUEST, CHOICE, PERSON],
    choosing.walk: [GUEST, CHOICE, CHOICE],
    naming.changed: [ANY_LOOKS, CHANGE], naming.answers: [GUEST, OTHER], naming.count_answers: [GUEST, OTHER],
    naming.equations: [GUEST, OTHER], naming.free_signs: [GUEST, OTHER],
    leading.leads: [GUEST, OTHER], leading.turns_to: [GUEST, LED], leading.paper: [GUEST, OTHER],
    leading.judged: [GUEST, OTHER, PAPER],
    classes.members: [GUEST], classes.count_members: [GUEST], classes.least_member: [GUEST], classes.number_of: [GUEST],
    classes.member_at: [GUEST, NUMBER], classes.fewest_turns: [GUEST, LED], classes.least_row: [GUEST, LED],
    classes.farthest: [GUEST],
    leaving.left: [GUEST, PERSON, LOOK], leaving.all_left: [GUEST, PERSON], leaving.lies_in: [SMALL, GUEST, WHO],
}


def right_values(kinds):
    return [right for right, _, _ in kinds]


class Telling(unittest.TestCase):
    def fails(self, error, function, *handed):
        """The very error is raised, and nothing that is handed in is changed."""
        before = copy.deepcopy(handed)
        with self.assertRaises(HallError) as caught:
            function(*handed)
        self.assertIs(type(caught.exception), error)
        self.assertEqual(handed, before)


class Values(Telling):
    def test_right_values_raise_nothing(self):
        for function, kinds in PARAMETERS.items():
            handed = right_values(kinds)
            told = function(*handed)
            self.assertEqual(handed, right_values(kinds))
            self.assertEqual(told, function(*copy.deepcopy(handed)))

    def test_each_parameter(self):
        for function, kinds in PARAMETERS.items():
            for k, (_, error, wrongs) in enumerate(kinds):
                for value in wrongs:
                    handed = right_values(kinds)
                    handed[k] = value
                    self.fails(error, function, *handed)

    def test_the_first_wrong_one_is_told(self):
        for function, kinds in PARAMETERS.items():
            for k, (_, error, wrongs) in enumerate(kinds):
                for value in [wrongs[-1], *WRONG] if error else []:
                    self.fails(error, function, *right_values(kinds[:k]), *[value for _ in kinds[k:]])

    def test_wrong_ones_behind_wrong_ones(self):
        for function, kinds in PARAMETERS.items():
            for k in range(len(kinds) - 1):
                for value in kinds[k][2][::5]:
                    for behind in kinds[k + 1][2][::7]:
                        handed = [*right_values(kinds[:k]), value, behind, *right_values(kinds[k + 2:])]
                        self.fails(kinds[k][1], function, *handed)

    def test_deep_values(self):
        for kind in (tuple, list, dict):
            for deep in range(31):
                value = nested(kind, deep)
                for function, kinds in PARAMETERS.items():
                    self.fails(kinds[0][1], function, *[value for _ in kinds])

    def test_is_hall_of_any_value(self):
        for value in WRONG_HALLS + [nested(kind, deep) for kind in (tuple, list, dict) for deep in range(31)]:
            before = copy.deepcopy(value)
            self.assertIs(is_hall(value), False)
            self.assertEqual(value, before)


class Orders(Telling):
    """Which error comes where an argument is wrong beside others, or only together with them."""

    def test_swap_tells_persons_before_friends(self):
        self.fails(NoPerson, halls.swapped, HALL, 0, 3)
        self.fails(NoPerson, halls.swapped, HALL, 3, 0)
        self.fails(NoPerson, halls.swapped, HALL, 3, 3)
        self.fails(NoPerson, halls.swapped, (1, ()), 1, 0)
        self.fails(NotFriends, halls.swapped, HALL, 0, 2)
        self.fails(NotFriends, halls.swapped, HALL, 1, 1)
        self.fails(NotFriends, halls.swapped, (1, ()), 0, 0)
        self.fails(BadHall, halls.swapped, (3, ((1, 0),)), 0, 2)

    def test_bools_are_no_integers(self):
        self.assertIs(is_hall((True, ())), False)
        for function in (halls.friends, halls.turned, looks.own_row):
            self.fails(NoPerson, function, HALL, True)
            self.fails(NoPerson, function, HALL, False)
        self.fails(NoPerson, halls.swapped, HALL, False, 1)
        self.fails(NoPerson, halls.swapped, HALL, 0, True)
        self.fails(NoPerson, choosing.third, HALL, "ZZZ", True)
        self.fails(NoPerson, choosing.base_row, HALL, "ZZZ", False)
        self.fails(BadRow, halls.turned_all, HALL, (0, False))
        self.fails(BadLot, halls.rank_of, HALL, (False, True))
        self.fails(BadOrder, halls.renamed, HALL, (False, True, 2))

    def test_rows_as_long_as_one_another(self):
        for function in (looks.added, looks.meet_oddly):
            for n in range(1, 9):
                for m in range(0, 10):
                    if m != n:
                        self.fails(BadLooks, function, "X" * n, "X" * m)
                        self.fails(BadLooks, function, "." * m, "." * n)
            self.fails(BadLooks, function, "", "")
            self.fails(BadLooks, function, "X" * 9, "X" * 9)
            self.fails(BadLooks, function, "X" * 3, ("X",) * 3)

    def test_rows_as_long_as_the_hall_has_people(self):
        for n in range(1, 9):
            for m in range(0, 10):
                if m != n:
                    self.fails(BadLooks, looks.is_in_room, (n, ()), "." * m)
                    for function in (choosing.left_over, choosing.signs_over, choosing.hall_of):
                        self.fails(BadChoice, function, (n, ()), "Z" * m)
                    self.fails(BadChoice, choosing.third, (n, ()), "Z" * m, n)
                    self.fails(BadChoice, choosing.walk, (n, ()), "Z" * n, "Z" * m)

    def test_choices_that_leave_something_over(self):
        """What is told of one choice is told ahead of the parameters behind it."""
        for choice in ("XXX", "XZX", "XYX", "YXY"):
            self.assertGreater(choosing.signs_over(HALL, choice), 0)
            self.fails(LeavesOver, choosing.hall_of, HALL, choice)
            for x in (0, 3, None, True):
                self.fails(LeavesOver, choosing.base_row, HALL, choice, x)
                self.fails(LeavesOver, choosing.third, HALL, choice, x)
            for other in ("ZZZ", choice, "", None, "XX"):
                self.fails(LeavesOver, choosing.walk, HALL, choice, other)
            self.fails(LeavesOver, choosing.walk, HALL, "ZZZ", choice)
            self.fails(BadChoice, choosing.walk, HALL, "ZZ", choice)
            self.fails(BadHall, choosing.walk, (3, ((1, 0),)), choice, choice)
            self.fails(BadHall, choosing.base_row, (0, ()), choice, 0)
        self.fails(LeavesOver, choosing.hall_of, (8, ()), "ZZZZZZZX")
        self.fails(LeavesOver, choosing.third, (1, ()), "X", 0)

    def test_changes_as_long_as_the_row(self):
        for n in range(1, 9):
            for m in range(0, 10):
                if m != n:
                    self.fails(BadChange, naming.changed, "X" * n, ("XYZ",) * m)
        self.fails(BadLooks, naming.changed, "", ())
        self.fails(BadLooks, naming.changed, "X" * 9, ("XYZ",) * 9)

    def test_unlike_behind_both_halls(self):
        for function in (naming.answers, naming.count_answers, naming.equations, naming.free_signs):
            for n in range(1, 9):
                for m in range(1, 9):
                    if m != n:
                        self.fails(Unlike, function, (n, ()), (m, ()))
                self.fails(BadHall, function, (n, ()), (9, ()))
                self.fails(BadHall, function, (0, ()), (n, ()))
                self.fails(BadHall, function, (n, ()), (n, ((1, 0),)))
        for function in (leading.leads, leading.turns_to, leading.paper, classes.fewest_turns, classes.least_row):
            self.fails(Unlike, function, (2, ()), (3, ()))
            self.fails(Unlike, function, (8, ((0, 1),)), (1, ()))
            self.fails(BadHall, function, (2, ()), (9, ()))
        for paper in hands.ANY_VALUES:
            self.fails(Unlike, leading.judged, (2, ()), (3, ()), paper)
            self.fails(BadHall, leading.judged, (2, ()), (9, ()), paper)
            self.fails(BadHall, leading.judged, (0, ()), (3, ()), paper)

    def test_no_way_behind_both_halls(self):
        for function in (leading.turns_to, classes.fewest_turns, classes.least_row):
            self.fails(NoWay, function, HALL, (3, ()))
            self.fails(NoWay, function, (2, ()), (2, ((0, 1),)))
            self.fails(Unlike, function, HALL, (4, ()))

    def test_judged_takes_any_paper(self):
        for value in hands.ANY_VALUES:
            before = copy.deepcopy(value)
            self.assertIs(type(leading.judged(HALL, (3, ()), value)), bool)
            self.assertEqual(value, before)

    def test_halls_of_one_person_are_not_left(self):
        for x in (0, 1, -1, None, True, "0"):
            for look in ("X", "Y", "Z", "", None):
                self.fails(BadHall, leaving.left, (1, ()), x, look)
            self.fails(BadHall, leaving.all_left, (1, ()), x)
        self.fails(NoPerson, leaving.left, (2, ()), 2, "X")
        self.fails(NoPerson, leaving.left, (2, ()), 2, "")
        self.fails(BadLook, leaving.left, (2, ()), 1, "")
        self.fails(NoPerson, leaving.all_left, (2, ()), True)

    def test_who(self):
        """One person of the hall for each of the small one: none such for a small hall of more people."""
        for who in ((), (0,), (0, 1), (0, 1, 2), (0, 1, 2, 3), None, (0, 1, 1)):
            self.fails(BadWho, leaving.lies_in, (4, ()), HALL, who)
            self.fails(BadWho, leaving.lies_in, (8, ()), (1, ()), who)
        for m in range(1, 9):
            for many in range(10):
                if many != m:
                    self.fails(BadWho, leaving.lies_in, (m, ()), (8, ()), tuple(range(many)))
            self.fails(BadWho, leaving.lies_in, (m, ()), (8, ()), (8,) + tuple(range(1, m)))
            self.fails(BadWho, leaving.lies_in, (m, ()), (8, ()), tuple(range(m - 1)) + (True,))
            if m > 1:
                self.fails(BadWho, leaving.lies_in, (m, ()), (8, ()), (m - 2,) + tuple(range(m - 1)))
        self.fails(BadHall, leaving.lies_in, (9, ()), (9, ()), ())
        self.fails(BadHall, leaving.lies_in, (3, ()), (9, ()), ())


class Kinds(unittest.TestCase):
    def test_helpers_of_any_value(self):
        for value in [*WRONG, 0, 1, 3, (), (0,), (3,)]:
            for n in [*WRONG, 0, 1, 3, ()]:
                number = type(n) is int and n > 0
                self.assertIs(is_whole(value), type(value) is int)
                self.assertIs(is_person(value, n), type(value) is int and number and value in range(n))
                self.assertIs(type(are_persons(value, n)), bool)

    def tuples(self, *values):
        for value in values:
            self.assertIs(type(value), tuple)

    def test_answers_are_tuples_throughout(self):
        self.tuples(
            halls.friends(HALL, 1), halls.turned(HALL, 1), halls.turned(HALL, 1)[1], halls.turned(HALL, 1)[1][0],
            halls.turned_all(HALL, ())[1], halls.swapped(HALL, 0, 1), halls.swapped(HALL, 0, 1)[1][0], halls.ranks(HALL),
            halls.parts(HALL), halls.parts(HALL)[0], halls.renamed(HALL, (1, 0, 2)), halls.renamed(HALL, (1, 0, 2))[1][0],
            looks.room(HALL), choosing.left_over(HALL, "XZX"), choosing.choices(HALL), choosing.hall_of(HALL, "XYZ"),
            choosing.hall_of(HALL, "XYZ")[1], choosing.walk(HALL, "ZZZ", "XYZ"), naming.answers(HALL, HALL),
            naming.answers(HALL, HALL)[0], naming.equations(HALL, HALL), naming.equations(HALL, HALL)[0],
        )
        self.tuples(
            leading.turns_to(HALL, HALL), leading.paper(HALL, HALL), leading.paper(HALL, (3, ())), classes.members(HALL),
            leading.paper(HALL, (3, ()))[1], classes.members(HALL)[0], classes.members(HALL)[0][1],
            classes.least_member(HALL), classes.member_at(HALL, 0), classes.least_row(HALL, HALL), classes.farthest(HALL),
            classes.farthest(HALL)[1], classes.farthest(HALL)[1][0], leaving.left(HALL, 0, "X"),
            leaving.left(HALL, 0, "X")[1], leaving.all_left(HALL, 0), leaving.all_left(HALL, 0)[0],
        )

    def test_numbers_and_texts(self):
        for number in (
            halls.rank_of(HALL, (0,)), choosing.signs_over(HALL, "XZX"), naming.count_answers(HALL, HALL),
            naming.free_signs(HALL, HALL), naming.equations(HALL, HALL)[0][0], classes.count_members(HALL),
            classes.number_of(HALL), classes.fewest_turns(HALL, HALL), classes.farthest(HALL)[0],
        ):
            self.assertIs(type(number), int)
        for text in (
            looks.added("X", "Y"), looks.own_row(HALL, 0), looks.room(HALL)[0], choosing.left_over(HALL, "XZX")[0],
            choosing.base_row(HALL, "XYZ", 0), choosing.third(HALL, "XYZ", 0), naming.changed("X", ("YZX",)),
            naming.answers(HALL, HALL)[0][0],
        ):
            self.assertIs(type(text), str)
