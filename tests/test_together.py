"""What the points promise over several modules: what turns never change, and what tells the same hall."""

import random
import unittest

from tests import dancing, roads
from tests.hands import all_halls, some_halls
from turnfriends.asking import outcomes, sign_of
from turnfriends.choosing import choices, hall_of, left_over, signs_over, third
from turnfriends.classes import count_members, farthest, least_member, least_row, members
from turnfriends.dances import count_tours, dances, hall_of_dance, is_danced, tours, turned_dance
from turnfriends.desks import Desk, desk_of
from turnfriends.growing import growth, grown, is_grown, splits
from turnfriends.halls import parts, ranks, renamed, swapped, turned, turned_all
from turnfriends.leading import judged, leads, paper, turns_to
from turnfriends.leaving import all_left, left
from turnfriends.listing import classes_of, least_named
from turnfriends.looks import own_row, room
from turnfriends.naming import answers, changed, count_answers
from turnfriends.printing import printed, start_of
from turnfriends.running import run
from turnfriends.sums import sum_of_choices, sum_of_lots
from turnfriends.trees import is_tree, tree_name
from turnfriends.widths import width


def halls_to_turn():
    for n in range(1, 5):
        yield from all_halls(n)
    for n in range(5, 9):
        yield from some_halls(n, 5)


def drawn_row(chance, n, many):
    return tuple(chance.randrange(n) for _ in range(many))


def program(hall, row):
    """A program of the turns of a row, with the pairs of the heading in any order."""
    pairs = [f"{y}-{x}" for x, y in reversed(hall[1])]
    return " ".join([f"people {hall[0]} friends", *pairs, *[f"turn {x}" for x in row]])


class Kept(unittest.TestCase):
    """Turns never change these."""

    def kept(self, hall):
        return (
            ranks(hall), parts(hall), splits(hall), width(hall), sum_of_choices(hall), is_grown(hall), len(choices(hall)),
            count_members(hall), least_member(hall),
        )

    def test_behind_drawn_turns(self):
        chance = random.Random(40)
        for hall in halls_to_turn():
            behind = turned_all(hall, drawn_row(chance, hall[0], 7))
            self.assertEqual(self.kept(behind), self.kept(hall))

    def test_behind_each_turn(self):
        for hall in [hall for n in range(1, 5) for hall in all_halls(n)]:
            for x in range(hall[0]):
                self.assertEqual(self.kept(turned(hall, x)), self.kept(hall))

    def test_up_to_six_people(self):
        chance = random.Random(41)
        for hall in [hall for hall in halls_to_turn() if hall[0] <= 6]:
            behind = turned_all(hall, drawn_row(chance, hall[0], 7))
            self.assertIs(is_danced(behind), is_danced(hall))
            self.assertEqual(least_named(behind), least_named(hall))

    def test_papers(self):
        """Turns at the one hall, or at the other one, never change the kind of their paper, nor the lot that it tells."""
        chance = random.Random(42)
        for n in range(1, 7):
            for hall in some_halls(n, 5):
                for other in [*some_halls(n, 3), turned_all(hall, drawn_row(chance, n, 5))]:
                    told = paper(hall, other)
                    one, two = turned(hall, chance.randrange(n)), turned(other, chance.randrange(n))
                    for told_behind in (paper(one, other), paper(hall, two), paper(one, two)):
                        self.assertEqual(told_behind[0], told[0])
                        self.assertEqual(told_behind[1] if told[0] == "ranks" else 0, told[1] if told[0] == "ranks" else 0)
                    self.assertIs(judged(hall, other, told), True)
                    self.assertIs(told[0] == "turns", leads(hall, other))

    def test_leaving(self):
        """Whatever turns come ahead, the classes behind the leaving of one are the same."""
        chance = random.Random(43)
        for hall in [hall for hall in halls_to_turn() if hall[0] > 1]:
            x = chance.randrange(hall[0])
            behind = turned_all(hall, drawn_row(chance, hall[0], 5))
            self.assertEqual(all_left(behind, x), all_left(hall, x))

    def test_classes_of_the_list(self):
        """Halls of unlike classes, by turns and renaming, are told apart."""
        chance = random.Random(44)
        for n in range(1, 6):
            for hall in classes_of(n):
                order = tuple(chance.sample(range(n), n))
                behind = renamed(turned_all(hall, drawn_row(chance, n, 5)), order)
                self.assertEqual(least_named(behind), hall)
                self.assertEqual([width(behind), sum_of_choices(behind)], [width(hall), sum_of_choices(hall)])
                self.assertIs(is_grown(behind), is_grown(hall))


class Same(unittest.TestCase):
    """Programs, desks, dances and rows of turns tell the same hall."""

    def test_rows_programs_and_desks(self):
        chance = random.Random(45)
        for hall in halls_to_turn():
            row = drawn_row(chance, hall[0], 12)
            behind = hall
            for x in row:
                behind = roads.turned(behind, x)
            desk = Desk(hall)
            for x in row:
                desk.turn(x)
            self.assertEqual(turned_all(hall, row), behind)
            self.assertEqual(run(program(hall, row)), (behind, row, ()))
            self.assertEqual(run(printed(program(hall, row)))[0], behind)
            self.assertEqual(start_of(program(hall, row)), hall)
            self.assertEqual([desk.hall(), desk.row()], [behind, tuple(("turn", x) for x in row)])
            self.assertEqual(desk_of(desk.text()).hall(), behind)
            # The first line end is a blank for a program.
            self.assertEqual(start_of(desk.text()), behind)

    def test_swaps(self):
        for hall in halls_to_turn():
            for x, y in hall[1]:
                behind = swapped(hall, x, y)
                desk = Desk(hall)
                desk.swap(y, x)
                self.assertEqual(turned_all(hall, (y, x, y)), behind)
                self.assertEqual(run(program(hall, ()) + f" swap {x}, {y}"), (behind, (x, y, x), ()))
                self.assertEqual(desk.hall(), behind)
                self.assertEqual(sum_of_lots(behind), sum_of_lots(hall))

    def test_dances(self):
        chance = random.Random(46)
        for n in range(1, 9):
            for dance in dancing.some_dances(n, 10):
                hall, row = hall_of_dance(dance), drawn_row(chance, n, 12)
                told, desk = dance, Desk(hall)
                for x in row:
                    told = turned_dance(told, x)
                    desk.turn(x)
                self.assertEqual(hall_of_dance(told), desk.hall())
                self.assertEqual(hall_of_dance(told), turned_all(hall, row))
                self.assertEqual(hall_of_dance(told), run(program(hall, row))[0])

    def test_dances_of_a_class(self):
        """The halls of the tours of a dance's yard are the class of the dance's hall."""
        for n in range(1, 6):
            for dance in dancing.some_dances(n, 6):
                hall = hall_of_dance(dance)
                self.assertEqual(tuple(sorted({hall_of_dance(tour) for tour in tours(dance)})), members(hall))
                self.assertEqual(count_tours(dance), len(choices(hall)))
                for told in dances(hall)[:3]:
                    self.assertEqual(hall_of_dance(told), hall)

    def test_thirds(self):
        for hall in [hall for hall in halls_to_turn() if hall[0] < 7]:
            for choice in choices(hall)[::7]:
                for x in range(hall[0]):
                    self.assertEqual(hall_of(hall, third(hall, choice, x)), turned(hall_of(hall, choice), x))

    def test_ways_there(self):
        chance = random.Random(47)
        for hall in halls_to_turn():
            other = turned_all(hall, drawn_row(chance, hall[0], 10))
            for row in (turns_to(hall, other), least_row(hall, other)):
                desk = Desk(hall)
                for x in row:
                    desk.turn(x)
                self.assertEqual(desk.hall(), other)
                self.assertLessEqual(len(row), 3 * hall[0] // 2)
            self.assertLessEqual(farthest(hall)[0], 3 * hall[0] // 2)

    def test_classes_by_choices_and_answers(self):
        """The main sentence: as many halls come of a hall as it has choices, by its answers to itself."""
        for hall in halls_to_turn():
            told = {hall_of(hall, choice) for choice in choices(hall)} if hall[0] < 7 else set(members(hall))
            self.assertEqual(tuple(sorted(told)), members(hall))
            self.assertEqual(len(told) * count_answers(hall, hall), len(choices(hall)))

    def test_answers_lead_rooms_to_rooms(self):
        for hall in [hall for hall in halls_to_turn() if hall[0] < 6]:
            other = turned(hall, 0)
            for change in answers(hall, other)[:4]:
                self.assertEqual(tuple(sorted(changed(row, change) for row in room(hall))), room(other))

    def test_trees_and_growth(self):
        """Trees grow, and are danced; those of one class have one name."""
        for n in range(1, 6):
            for hall in all_halls(n):
                if is_tree(hall):
                    self.assertEqual(grown(growth(hall)), hall)
                    self.assertIs(is_danced(hall), True)
                    other = [member for member in members(hall) if is_tree(member)]
                    self.assertEqual({tree_name(tree) for tree in other}, {tree_name(hall)})

    def test_what_grows_is_left_and_turned_at_the_desk(self):
        chance = random.Random(48)
        for hall in halls_to_turn():
            desk = Desk(hall)
            while desk.hall()[0] > 1:
                now, x, look = desk.hall(), chance.randrange(desk.hall()[0]), chance.choice("XYZ")
                desk.leave(x, look)
                self.assertEqual(desk.hall(), left(now, x, look))
                self.assertTrue(is_grown(desk.hall()) or not is_grown(now))

    def test_rows_left_over_and_what_can_come(self):
        chance = random.Random(49)
        for hall in halls_to_turn():
            choice = "".join(chance.choice("XYZ") for _ in range(hall[0]))
            self.assertEqual(len(left_over(hall, choice)), 2 ** signs_over(hall, choice))
            self.assertEqual(len(outcomes(hall, choice)) * len(left_over(hall, choice)), 2 ** hall[0])
            self.assertEqual([sign_of(hall, own_row(hall, x)) for x in range(hall[0])], [1] * hall[0])
