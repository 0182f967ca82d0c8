"""No ordinary call runs for long: the slowest ones, timed on halls of eight people."""

import time
import unittest

from tests import dancing
from tests.hands import pairs_of, some_halls
from turnfriends import asking, choosing, classes, dances, growing, halls, leading, leaving, listing, looks, naming
from turnfriends import sums, trees, widths
from turnfriends.desks import Desk, desk_of
from turnfriends.running import run

MOST_SECONDS = 20

FOUR_PAIRS = (8, ((0, 1), (2, 3), (4, 5), (6, 7)))
RING = (8, ((0, 1), (0, 7), (1, 2), (2, 3), (3, 4), (4, 5), (5, 6), (6, 7)))
GUESTS = [(8, ()), (8, tuple(pairs_of(8))), FOUR_PAIRS, RING, *list(some_halls(8, 5))[2:]]


class Times(unittest.TestCase):
    def soon(self, function, *handed):
        begun = time.monotonic()
        function(*handed)
        self.assertLess(time.monotonic() - begun, MOST_SECONDS, (function, handed))

    def test_one_hall(self):
        for hall in GUESTS:
            for function in (halls.ranks, halls.parts, looks.room, choosing.choices):
                self.soon(function, hall)

    def test_choices_that_leave_over(self):
        for hall in GUESTS:
            for choice in ("XXXXXXXX", "YYYYYYYY", "XYZXYZXY"):
                self.soon(choosing.left_over, hall, choice)

    def test_walks(self):
        for hall in GUESTS:
            told = choosing.choices(hall)
            self.soon(choosing.walk, hall, told[-1], told[0])

    def test_two_halls(self):
        for hall in GUESTS:
            for other in (hall, halls.turned(hall, 0), RING):
                for function in (naming.answers, naming.count_answers, naming.equations, naming.free_signs):
                    self.soon(function, hall, other)

    def test_leading(self):
        for hall in GUESTS:
            behind = halls.turned_all(hall, (0, 1, 2, 3, 4, 5, 6, 7))
            self.soon(leading.turns_to, hall, behind)
            self.soon(leading.judged, hall, behind, ("none",))
            for other in (behind, RING, (8, ((0, 1),))):
                self.soon(leading.leads, hall, other)
                self.soon(leading.paper, hall, other)

    def test_classes(self):
        for hall in GUESTS:
            behind = halls.turned_all(hall, (7, 5, 3, 1))
            for function in (classes.members, classes.count_members, classes.least_member, classes.number_of, classes.farthest):
                self.soon(function, hall)
            for function in (classes.fewest_turns, classes.least_row):
                self.soon(function, hall, behind)
            self.soon(classes.member_at, hall, 0)

    def test_leaving(self):
        for hall in GUESTS:
            self.soon(leaving.all_left, hall, 7)
            for n in (1, 3, 5, 8):
                self.soon(leaving.lies_in, (n, ()), hall, tuple(range(n)))

    def test_programs(self):
        often = "repeat 40 { repeat 45 { say 99 * 99 * 99 mod people } }"
        e = "-" * 59
        for text in (
            f"people 8 friends 0-1 {often}", f"people 8 friends repeat 99 {{ repeat 19 {{ say {e}1 }} }}",
            "people 1 friends let a = 99 * 99 * 99 repeat a { } repeat 99 { repeat 18 { repeat a { } } }",
        ):
            self.soon(run, text)

    def test_sums_growth_and_widths(self):
        for hall in GUESTS:
            for function in (
                sums.sum_of_lots, sums.sum_of_choices, growing.splits, growing.is_grown, widths.width, widths.narrow_order,
                trees.is_tree, asking.table, asking.bars,
            ):
                self.soon(function, hall)
            self.soon(widths.width_of, hall, tuple(range(8)))
            self.soon(asking.is_table, hall, "0" * 24)
            for choice in ("XXXXXXXX", "ZZZZZZZZ", "XYZXYZXY"):
                self.soon(asking.outcomes, hall, choice)
        self.soon(trees.tree_name, (8, tuple((0, x) for x in range(1, 8))))
        self.soon(growing.growth, (8, tuple(pairs_of(8))))

    def test_halls_of_six(self):
        for hall in [(6, ((0, 1),)), (6, ((0, 1), (2, 3), (4, 5))), *some_halls(6, 12)]:
            for function in (dances.dances, dances.is_danced, listing.least_named):
                self.soon(function, hall)
        self.soon(listing.classes_of, 5)

    def test_dances(self):
        for dance in dancing.some_dances(6, 5):
            self.soon(dances.tours, dance)
            self.soon(dances.count_tours, dance)
        for dance in dancing.some_dances(8, 5):
            for function in (dances.hall_of_dance, dances.least_dance, dances.yard):
                self.soon(function, dance)

    def test_desks(self):
        for hall in GUESTS:
            desk = Desk(hall)
            for _ in range(1000):
                desk.turn(5)
            for call in (desk.ranks, desk.count, desk.row, desk.undo):
                self.soon(call)
            self.soon(desk.aim, RING)
            self.soon(desk_of, desk.text())
