"""Promise [1]: any values, the errors in the order of the parameters, nothing changed."""

import copy
import unittest

from tests import hands
from tests.hands import WRONG, WRONG_HALLS, nested
from turnfriends import asking, choosing, classes, dances, growing, halls, leading, leaving, listing, looks, naming
from turnfriends import sums, trees, widths
from turnfriends.errors import (
    BadChange, BadChoice, BadDance, BadHall, BadLook, BadLooks, BadLot, BadNumber, BadOrder, BadPeople, BadRow, BadSteps,
    BadWho, HallError, LeavesOver, NoPerson, NotFriends, NotGrown, NotInRoom, NoTree, NoWay, Unlike,
)
from turnfriends.halls import is_hall
from turnfriends.values import are_persons, is_person, is_whole

HALL = (3, ((0, 1), (1, 2)))

# For each kind of parameter a right value, the error that is told for wrong ones, and these.
GUEST = (HALL, BadHall, WRONG_HALLS)
OTHER = ((3, ((0, 2),)), BadHall, WRONG_HALLS)
PERSON = (0, NoPerson, [*hands.WRONG_PERSONS, 3])
SECOND = (1, NoPerson, [*hands.WRONG_PERSONS, 3])
ROW = ((0, 1), BadRow, hands.WRONG_ROWS)
LOT = ((0, 1), BadLot, hands.WRONG_LOTS)
ORDER = ((2, 0, 1), BadOrder, hands.WRONG_ORDERS)
ANY_LOOKS = ("XZ.", BadLooks, hands.WRONG_ANY_LOOKS)
LOOKS = (".XX", BadLooks, hands.WRONG_LOOKS)
CHOICE = ("XYZ", BadChoice, hands.WRONG_CHOICES)
LED = ((3, ((0, 1), (0, 2))), BadHall, WRONG_HALLS)
SMALL = ((2, ((0, 1),)), BadHall, WRONG_HALLS)
NUMBER = (3, BadNumber, hands.WRONG_NUMBERS)
LOOK = ("Y", BadLook, hands.WRONG_LOOK_VALUES)
WHO = ((2, 0), BadWho, hands.WRONG_WHOS)
# No value at all is wrong for it.
PAPER = (("none",), None, [])
CHANGE = (("YZX", "XYZ", "ZYX"), BadChange, hands.WRONG_CHANGES)
TREE = (HALL, BadHall, WRONG_HALLS)
FEW = (HALL, BadHall, [*WRONG_HALLS, (7, ()), (8, ()), (7, ((0, 1), (5, 6)))])
DANCE = ((0, 1, 0, 2, 1, 2), BadDance, hands.WRONG_DANCES)
FEW_DANCERS = ((0, 1, 0, 2, 1, 2), BadDance, [*hands.WRONG_DANCES, tuple(range(7)) * 2, tuple(range(8)) * 2])
STEPS = ((("alone", 1), ("leaf", 0, 1), ("twin", 2, 1, "friend")), BadSteps, hands.WRONG_STEPS)
PEOPLE = (3, BadPeople, [*WRONG, *hands.WRONG_PEOPLE])
IN_ROOM = (".ZX", BadLooks, hands.WRONG_LOOKS)
ANY_VALUE = ("000", None, [])

# Functions of texts, and the methods of the desk, are tested beside what they do.
PARAMETERS = {
    halls.friends: [GUEST, PERSON], halls.turned: [GUEST, PERSON], halls.turned_all: [GUEST, ROW],
    halls.swapped: [GUEST, PERSON, SECOND], halls.rank_of: [GUEST, LOT], halls.ranks: [GUEST], halls.parts: [GUEST],
    halls.renamed: [GUEST, ORDER],
    looks.added: [ANY_LOOKS, LOOKS], looks.meet_oddly: [ANY_LOOKS, LOOKS], looks.own_row: [GUEST, PERSON],
    looks.room: [GUEST], looks.is_in_room: [GUEST, LOOKS],
    choosing.left_over: [GUEST, CHOICE], choosing.signs_over: [GUEST, CHOICE], choosing.choices: [GUEST],
    choosing.base_row: [GUEST, CHOICE, PERSON], choosing.hall_of: [GUEST, CHOICE], choosing.third: [GUEST, CHOICE, PERSON],
    choosing.walk: [GUEST, CHOICE, CHOICE],
    naming.changed: [ANY_LOOKS, CHANGE], naming.answers: [GUEST, OTHER], naming.count_answers: [GUEST, OTHER],
    naming.equations: [GUEST, OTHER], naming.free_signs: [GUEST, OTHER],
    leading.leads: [GUEST, OTHER], leading.turns_to: [GUEST, LED], leading.paper: [GUEST, OTHER],
    leading.judged: [GUEST, OTHER, PAPER],
    classes.members: [GUEST], classes.count_members: [GUEST], classes.least_member: [GUEST], classes.number_of: [GUEST],
    classes.member_at: [GUEST, NUMBER], classes.fewest_turns: [GUEST, LED], classes.least_row: [GUEST, LED],
    classes.farthest: [GUEST],
    leaving.left: [GUEST, PERSON, LOOK], leaving.all_left: [GUEST, PERSON], leaving.lies_in: [SMALL, GUEST, WHO],
    trees.is_tree: [GUEST], trees.tree_name: [TREE],
    dances.hall_of_dance: [DANCE], dances.turned_dance: [DANCE, PERSON], dances.least_dance: [DANCE], dances.yard: [DANCE],
    dances.dances: [FEW], dances.is_danced: [FEW], dances.tours: [FEW_DANCERS], dances.count_tours: [FEW_DANCERS],
    sums.sum_of_lots: [GUEST], sums.sum_of_choices: [GUEST],
    growing.splits: [GUEST], growing.is_grown: [GUEST], growing.growth: [GUEST], growing.grown: [STEPS],
    widths.width_of: [GUEST, ORDER], widths.width: [GUEST], widths.narrow_order: [GUEST],
    listing.least_named: [FEW], listing.classes_of: [PEOPLE],
    asking.sign_of: [GUEST, IN_ROOM], asking.outcomes: [GUEST, CHOICE], asking.table: [GUEST], asking.bars: [GUEST],
    asking.is_table: [GUEST, ANY_VALUE],
}


def right_values(kinds):
    return [right for right, _, _ in kinds]


class Telling(unittest.TestCase):
    def fails(self, error, function, *handed):
        """The very error is raised, and nothing that is handed in is changed."""
        before = copy.deepcopy(handed)
        with self.assertRaises(HallError) as caught:
            function(*handed)
        self.assertIs(type(caught.exception), error)
        self.assertEqual(handed, before)


class Values(Telling):
    def test_right_values_raise_nothing(self):
        for function, kinds in PARAMETERS.items():
            handed = right_values(kinds)
            told = function(*handed)
            self.assertEqual(handed, right_values(kinds))
            self.assertEqual(told, function(*copy.deepcopy(handed)))

    def test_each_parameter(self):
        for function, kinds in PARAMETERS.items():
            for k, (_, error, wrongs) in enumerate(kinds):
                for value in wrongs:
                    handed = right_values(kinds)
                    handed[k] = value
                    self.fails(error, function, *handed)

    def test_the_first_wrong_one_is_told(self):
        for function, kinds in PARAMETERS.items():
            for k, (_, error, wrongs) in enumerate(kinds):
                for value in [wrongs[-1], *WRONG] if error else []:
                    self.fails(error, function, *right_values(kinds[:k]), *[value for _ in kinds[k:]])

    def test_wrong_ones_behind_wrong_ones(self):
        for function, kinds in PARAMETERS.items():
            for k in range(len(kinds) - 1):
                for value in kinds[k][2][::5]:
                    for behind in kinds[k + 1][2][::7]:
                        handed = [*right_values(kinds[:k]), value, behind, *right_values(kinds[k + 2:])]
                        self.fails(kinds[k][1], function, *handed)

    def test_deep_values(self):
        for kind in (tuple, list, dict):
            for deep in range(31):
                value = nested(kind, deep)
                for function, kinds in PARAMETERS.items():
                    self.fails(kinds[0][1], function, *[value for _ in kinds])

    def test_is_hall_of_any_value(self):
        for value in WRONG_HALLS + [nested(kind, deep) for kind in (tuple, list, dict) for deep in range(31)]:
            before = copy.deepcopy(value)
            self.assertIs(is_hall(value), False)
            self.assertEqual(value, before)


class Orders(Telling):
    """Which error comes where an argument is wrong beside others, or only together with them."""

    def test_swap_tells_persons_before_friends(self):
        self.fails(NoPerson, halls.swapped, HALL, 0, 3)
        self.fails(NoPerson, halls.swapped, HALL, 3, 0)
        self.fails(NoPerson, halls.swapped, HALL, 3, 3)
        self.fails(NoPerson, halls.swapped, (1, ()), 1, 0)
        self.fails(NotFriends, halls.swapped, HALL, 0, 2)
        self.fails(NotFriends, halls.swapped, HALL, 1, 1)
        self.fails(NotFriends, halls.swapped, (1, ()), 0, 0)
        self.fails(BadHall, halls.swapped, (3, ((1, 0),)), 0, 2)

    def test_bools_are_no_integers(self):
        self.assertIs(is_hall((True, ())), False)
        for function in (halls.friends, halls.turned, looks.own_row):
            self.fails(NoPerson, function, HALL, True)
            self.fails(NoPerson, function, HALL, False)
        self.fails(NoPerson, halls.swapped, HALL, False, 1)
        self.fails(NoPerson, halls.swapped, HALL, 0, True)
        self.fails(NoPerson, choosing.third, HALL, "ZZZ", True)
        self.fails(NoPerson, choosing.base_row, HALL, "ZZZ", False)
        self.fails(BadRow, halls.turned_all, HALL, (0, False))
        self.fails(BadLot, halls.rank_of, HALL, (False, True))
        self.fails(BadOrder, halls.renamed, HALL, (False, True, 2))

    def test_rows_as_long_as_one_another(self):
        for function in (looks.added, looks.meet_oddly):
            for n in range(1, 9):
                for m in range(0, 10):
                    if m != n:
                        self.fails(BadLooks, function, "X" * n, "X" * m)
                        self.fails(BadLooks, function, "." * m, "." * n)
            self.fails(BadLooks, function, "", "")
            self.fails(BadLooks, function, "X" * 9, "X" * 9)
            self.fails(BadLooks, function, "X" * 3, ("X",) * 3)

    def test_rows_as_long_as_the_hall_has_people(self):
        for n in range(1, 9):
            for m in range(0, 10):
                if m != n:
                    self.fails(BadLooks, looks.is_in_room, (n, ()), "." * m)
                    for function in (choosing.left_over, choosing.signs_over, choosing.hall_of):
                        self.fails(BadChoice, function, (n, ()), "Z" * m)
                    self.fails(BadChoice, choosing.third, (n, ()), "Z" * m, n)
                    self.fails(BadChoice, choosing.walk, (n, ()), "Z" * n, "Z" * m)

    def test_choices_that_leave_something_over(self):
        """What is told of one choice is told ahead of the parameters behind it."""
        for choice in ("XXX", "XZX", "XYX", "YXY"):
            self.assertGreater(choosing.signs_over(HALL, choice), 0)
            self.fails(LeavesOver, choosing.hall_of, HALL, choice)
            for x in (0, 3, None, True):
                self.fails(LeavesOver, choosing.base_row, HALL, choice, x)
                self.fails(LeavesOver, choosing.third, HALL, choice, x)
            for other in ("ZZZ", choice, "", None, "XX"):
                self.fails(LeavesOver, choosing.walk, HALL, choice, other)
            self.fails(LeavesOver, choosing.walk, HALL, "ZZZ", choice)
            self.fails(BadChoice, choosing.walk, HALL, "ZZ", choice)
            self.fails(BadHall, choosing.walk, (3, ((1, 0),)), choice, choice)
            self.fails(BadHall, choosing.base_row, (0, ()), choice, 0)
        self.fails(LeavesOver, choosing.hall_of, (8, ()), "ZZZZZZZX")
        self.fails(LeavesOver, choosing.third, (1, ()), "X", 0)

    def test_changes_as_long_as_the_row(self):
        for n in range(1, 9):
            for m in range(0, 10):
                if m != n:
                    self.fails(BadChange, naming.changed, "X" * n, ("XYZ",) * m)
        self.fails(BadLooks, naming.changed, "", ())
        self.fails(BadLooks, naming.changed, "X" * 9, ("XYZ",) * 9)

    def test_unlike_behind_both_halls(self):
        for function in (naming.answers, naming.count_answers, naming.equations, naming.free_signs):
            for n in range(1, 9):
                for m in range(1, 9):
                    if m != n:
                        self.fails(Unlike, function, (n, ()), (m, ()))
                self.fails(BadHall, function, (n, ()), (9, ()))
                self.fails(BadHall, function, (0, ()), (n, ()))
                self.fails(BadHall, function, (n, ()), (n, ((1, 0),)))
        for function in (leading.leads, leading.turns_to, leading.paper, classes.fewest_turns, classes.least_row):
            self.fails(Unlike, function, (2, ()), (3, ()))
            self.fails(Unlike, function, (8, ((0, 1),)), (1, ()))
            self.fails(BadHall, function, (2, ()), (9, ()))
        for paper in hands.ANY_VALUES:
            self.fails(Unlike, leading.judged, (2, ()), (3, ()), paper)
            self.fails(BadHall, leading.judged, (2, ()), (9, ()), paper)
            self.fails(BadHall, leading.judged, (0, ()), (3, ()), paper)

    def test_no_way_behind_both_halls(self):
        for function in (leading.turns_to, classes.fewest_turns, classes.least_row):
            self.fails(NoWay, function, HALL, (3, ()))
            self.fails(NoWay, function, (2, ()), (2, ((0, 1),)))
            self.fails(Unlike, function, HALL, (4, ()))

    def test_judged_takes_any_paper(self):
        for value in hands.ANY_VALUES:
            before = copy.deepcopy(value)
            self.assertIs(type(leading.judged(HALL, (3, ()), value)), bool)
            self.assertEqual(value, before)

    def test_halls_of_one_person_are_not_left(self):
        for x in (0, 1, -1, None, True, "0"):
            for look in ("X", "Y", "Z", "", None):
                self.fails(BadHall, leaving.left, (1, ()), x, look)
            self.fails(BadHall, leaving.all_left, (1, ()), x)
        self.fails(NoPerson, leaving.left, (2, ()), 2, "X")
        self.fails(NoPerson, leaving.left, (2, ()), 2, "")
        self.fails(BadLook, leaving.left, (2, ()), 1, "")
        self.fails(NoPerson, leaving.all_left, (2, ()), True)

    def test_who(self):
        """One person of the hall for each of the small one: none such for a small hall of more people."""
        for who in ((), (0,), (0, 1), (0, 1, 2), (0, 1, 2, 3), None, (0, 1, 1)):
            self.fails(BadWho, leaving.lies_in, (4, ()), HALL, who)
            self.fails(BadWho, leaving.lies_in, (8, ()), (1, ()), who)
        for m in range(1, 9):
            for many in range(10):
                if many != m:
                    self.fails(BadWho, leaving.lies_in, (m, ()), (8, ()), tuple(range(many)))
            self.fails(BadWho, leaving.lies_in, (m, ()), (8, ()), (8,) + tuple(range(1, m)))
            self.fails(BadWho, leaving.lies_in, (m, ()), (8, ()), tuple(range(m - 1)) + (True,))
            if m > 1:
                self.fails(BadWho, leaving.lies_in, (m, ()), (8, ()), (m - 2,) + tuple(range(m - 1)))
        self.fails(BadHall, leaving.lies_in, (9, ()), (9, ()), ())
        self.fails(BadHall, leaving.lies_in, (3, ()), (9, ()), ())

    def test_no_trees_and_halls_that_do_not_grow(self):
        ring = (5, ((0, 1), (0, 4), (1, 2), (2, 3), (3, 4)))
        self.fails(NoTree, trees.tree_name, ring)
        self.fails(NotGrown, growing.growth, ring)
        self.fails(BadHall, trees.tree_name, (5, ((0, 4), (0, 1), (1, 2), (2, 3), (3, 4))))
        self.fails(BadHall, growing.growth, (5, ((0, 4), (0, 1), (1, 2), (2, 3), (3, 4))))
        self.fails(NoTree, trees.tree_name, (2, ()))

    def test_rows_that_are_not_in_the_room(self):
        for row in ("X..", "ZZZ", "..Z"):
            self.fails(NotInRoom, asking.sign_of, HALL, row)
            self.fails(BadHall, asking.sign_of, (3, ((1, 0),)), row)
            self.fails(BadLooks, asking.sign_of, HALL, row + ".")

    def test_dances_ahead_of_persons(self):
        for x in (2, -1, None, True, False, (0,)):
            self.fails(NoPerson, dances.turned_dance, (0, 1, 0, 1), x)
            self.fails(BadDance, dances.turned_dance, (0, 1, 0, 2), x)
            self.fails(BadDance, dances.turned_dance, (), x)

    def test_seven_and_eight_people(self):
        for n in (7, 8):
            for function in (dances.dances, dances.is_danced, listing.least_named):
                self.fails(BadHall, function, (n, ()))
            for function in (dances.tours, dances.count_tours):
                self.fails(BadDance, function, tuple(range(n)) * 2)
            for function in (dances.hall_of_dance, dances.least_dance, dances.yard):
                self.assertIs(type(function(tuple(range(n)) * 2)), tuple)
        self.fails(BadPeople, listing.classes_of, 6)

    def test_is_table_takes_any_value(self):
        for value in hands.ANY_VALUES:
            before = copy.deepcopy(value)
            self.assertIs(asking.is_table(HALL, value), False)
            self.assertEqual(value, before)
            self.fails(BadHall, asking.is_table, (9, ()), value)


class Kinds(unittest.TestCase):
    def test_helpers_of_any_value(self):
        for value in [*WRONG, 0, 1, 3, (), (0,), (3,)]:
            for n in [*WRONG, 0, 1, 3, ()]:
                number = type(n) is int and n > 0
                self.assertIs(is_whole(value), type(value) is int)
                self.assertIs(is_person(value, n), type(value) is int and number and value in range(n))
                self.assertIs(type(are_persons(value, n)), bool)

    def tuples(self, *values):
        for value in values:
            self.assertIs(type(value), tuple)

    def test_answers_are_tuples_throughout(self):
        self.tuples(
            halls.friends(HALL, 1), halls.turned(HALL, 1), halls.turned(HALL, 1)[1], halls.turned(HALL, 1)[1][0],
            halls.turned_all(HALL, ())[1], halls.swapped(HALL, 0, 1), halls.swapped(HALL, 0, 1)[1][0], halls.ranks(HALL),
            halls.parts(HALL), halls.parts(HALL)[0], halls.renamed(HALL, (1, 0, 2)), halls.renamed(HALL, (1, 0, 2))[1][0],
            looks.room(HALL), choosing.left_over(HALL, "XZX"), choosing.choices(HALL), choosing.hall_of(HALL, "XYZ"),
            choosing.hall_of(HALL, "XYZ")[1], choosing.walk(HALL, "ZZZ", "XYZ"), naming.answers(HALL, HALL),
            naming.answers(HALL, HALL)[0], naming.equations(HALL, HALL), naming.equations(HALL, HALL)[0],
        )
        self.tuples(
            leading.turns_to(HALL, HALL), leading.paper(HALL, HALL), leading.paper(HALL, (3, ())), classes.members(HALL),
            leading.paper(HALL, (3, ()))[1], classes.members(HALL)[0], classes.members(HALL)[0][1],
            classes.least_member(HALL), classes.member_at(HALL, 0), classes.least_row(HALL, HALL), classes.farthest(HALL),
            classes.farthest(HALL)[1], classes.farthest(HALL)[1][0], leaving.left(HALL, 0, "X"),
            leaving.left(HALL, 0, "X")[1], leaving.all_left(HALL, 0), leaving.all_left(HALL, 0)[0],
        )

    def test_further_tuples(self):
        round_dance = (0, 1, 0, 2, 1, 2)
        self.tuples(
            dances.hall_of_dance(round_dance), dances.hall_of_dance(round_dance)[1], dances.turned_dance(round_dance, 0),
            dances.least_dance(round_dance), dances.dances(HALL), dances.dances(HALL)[0], dances.tours(round_dance),
            dances.tours(round_dance)[0], dances.yard(round_dance), dances.yard(round_dance)[0], sums.sum_of_lots(HALL),
            sums.sum_of_choices(HALL), growing.splits((4, ())), growing.splits((4, ()))[0], growing.growth(HALL),
            growing.growth(HALL)[0], growing.grown((("alone", 0), ("leaf", 1, 0)))[1][0], widths.narrow_order(HALL),
            listing.least_named(HALL), listing.least_named(HALL)[1][0], listing.classes_of(3), listing.classes_of(3)[1][1],
            asking.outcomes(HALL, "XYZ"), asking.bars(HALL),
        )

    def test_truths(self):
        for told in (
            trees.is_tree(HALL), trees.is_tree((3, ())), dances.is_danced(HALL), growing.is_grown(HALL),
            asking.is_table(HALL, "000000000"), asking.is_table((1, ()), "000"), asking.is_table(HALL, None),
            looks.is_in_room(HALL, "XXX"), leading.leads(HALL, HALL), leaving.lies_in((1, ()), HALL, (0,)),
        ):
            self.assertIs(type(told), bool)

    def test_numbers_and_texts(self):
        for number in (
            halls.rank_of(HALL, (0,)), choosing.signs_over(HALL, "XZX"), naming.count_answers(HALL, HALL),
            naming.free_signs(HALL, HALL), naming.equations(HALL, HALL)[0][0], classes.count_members(HALL),
            classes.number_of(HALL), classes.fewest_turns(HALL, HALL), classes.farthest(HALL)[0],
            dances.count_tours((0, 0)), sums.sum_of_lots(HALL)[0], widths.width(HALL), widths.width_of(HALL, (2, 1, 0)),
            asking.sign_of(HALL, "X.X"),
        ):
            self.assertIs(type(number), int)
        for text in (
            looks.added("X", "Y"), looks.own_row(HALL, 0), looks.room(HALL)[0], choosing.left_over(HALL, "XZX")[0],
            choosing.base_row(HALL, "XYZ", 0), choosing.third(HALL, "XYZ", 0), naming.changed("X", ("YZX",)),
            naming.answers(HALL, HALL)[0][0], trees.tree_name(HALL), asking.outcomes(HALL, "XYZ")[0], asking.table((1, ())),
            asking.bars(HALL)[0],
        ):
            self.assertIs(type(text), str)
