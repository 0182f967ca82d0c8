"""Promises [25] and [26]: lots that are split off, and halls that grow."""

import functools
import itertools
import random
import unittest

from tests import roads
from tests.hands import WRONG_STEPS, all_halls, nested, pairs_of, some_halls
from turnfriends.errors import BadSteps, NotGrown
from turnfriends.growing import grown, growth, is_grown, splits
from turnfriends.halls import is_hall, rank_of, renamed, turned
from turnfriends.leaving import left, lies_in

RING = (5, ((0, 1), (0, 4), (1, 2), (2, 3), (3, 4)))


@functools.lru_cache(maxsize=None)
def rings():
    """The ring of five, whatever its people are called."""
    return {renamed(RING, order) for order in itertools.permutations(range(5))}


def known_to(pairs, x):
    return {y for pair in pairs for y in pair if x in pair} - {x}


def brought_in(pairs, there, x):
    """The pairs behind all ways of bringing in x."""
    yield pairs
    for y in there:
        with_y = pairs | {frozenset((x, y))}
        yield with_y
        as_y = {frozenset((x, z)) for z in known_to(pairs, y)}
        yield pairs | as_y
        yield with_y | as_y


@functools.lru_cache(maxsize=None)
def grown_halls(n):
    """All halls of n people that come of one person by all ways of bringing in the others, in all orders."""
    now = {(frozenset([x]), frozenset()) for x in range(n)}
    for _ in range(n - 1):
        now = {
            (there | {x}, frozenset(told))
            for there, pairs in now for x in range(n) if x not in there for told in brought_in(pairs, there, x)
        }
    return {(n, tuple(sorted(tuple(sorted(pair)) for pair in pairs))) for _, pairs in now}


def last_steps(pairs, there):
    """For each person who can have come last to the others there all steps that tell it, the first to be told first."""
    found = {}
    for x in there:
        others = there - {x}
        known = known_to(pairs, x) & others
        steps = [("alone", x)] if not known else []
        steps += [("leaf", x, y) for y in sorted(others) if known == {y}]
        for y in sorted(others):
            if known - {y} == known_to(pairs, y) & (others - {y}):
                steps.append(("twin", x, y, "friend" if y in known else "stranger"))
        if steps:
            found[x] = steps
    return found


def told_growth(hall):
    """The steps, by the words of the point; None if the hall doesn't grow."""
    pairs, there, steps = {frozenset(pair) for pair in hall[1]}, set(range(hall[0])), []
    while len(there) > 1:
        found = last_steps(pairs, there)
        if not found:
            return None
        steps.insert(0, found[max(found)][0])
        there -= {max(found)}
    return (("alone", min(there)), *steps)


def made(steps):
    """The hall that steps make, by sets of pairs."""
    pairs = set()
    for step in steps:
        if step[0] == "leaf":
            pairs |= {frozenset(step[1:])}
        if step[0] == "twin":
            pairs |= {frozenset((step[1], z)) for z in known_to(pairs, step[2])}
            pairs |= {frozenset(step[1:3])} if step[3] == "friend" else set()
    return len(steps), tuple(sorted(tuple(sorted(pair)) for pair in pairs))


def drawn_steps(n, chance):
    """Steps in which the persons come in any order."""
    order = chance.sample(range(n), n)
    steps = [("alone", order[0])]
    for k in range(1, n):
        x, y = order[k], chance.choice(order[:k])
        steps.append(chance.choice([
            ("alone", x), ("leaf", x, y), ("twin", x, y, "friend"), ("twin", x, y, "stranger"), ("twin", x, y, "friend"),
        ]))
    return tuple(steps)


class Splits(unittest.TestCase):
    def test_against_ranks(self):
        for n in range(1, 8):
            for hall in all_halls(n) if n < 5 else some_halls(n, 12):
                told = []
                for lot in roads.lots(n):
                    if 0 in lot and len(lot) >= 2 and n - len(lot) >= 2 and rank_of(hall, lot) in (0, 1):
                        told.append(lot)
                self.assertEqual(splits(hall), tuple(told))

    def test_against_other_ranks(self):
        for n in (4, 5, 6):
            for hall in some_halls(n, 12):
                for lot in roads.lots(n):
                    if 0 in lot and 2 <= len(lot) <= n - 2:
                        self.assertIs(lot in splits(hall), roads.rank_of(hall, lot) < 2)

    def test_turns_keep_them(self):
        chance = random.Random(26)
        for n in range(1, 9):
            for hall in all_halls(n) if n < 5 else some_halls(n, 12):
                for x in range(n):
                    self.assertEqual(splits(turned(hall, x)), splits(hall))
                behind = hall
                for _ in range(7):
                    behind = turned(behind, chance.randrange(n))
                self.assertEqual(splits(behind), splits(hall))

    def test_fewer_than_four(self):
        for n in range(1, 4):
            for hall in all_halls(n):
                self.assertEqual(splits(hall), ())

    def test_by_hand(self):
        self.assertEqual(splits((4, ())), ((0, 1), (0, 2), (0, 3)))
        self.assertEqual(splits((4, ((0, 2), (1, 3)))), ((0, 2),))
        self.assertEqual(splits(RING), ())
        self.assertEqual(splits((5, ((0, 1), (1, 2), (2, 3), (3, 4)))), ((0, 1), (0, 1, 2)))
        self.assertEqual(splits((5, ())), (
            (0, 1), (0, 2), (0, 1, 2), (0, 3), (0, 1, 3), (0, 2, 3), (0, 4), (0, 1, 4), (0, 2, 4), (0, 3, 4),
        ))
        # All 2 ** 7 lots with the person 0 but those of one or of none outside.
        self.assertEqual(len(splits((8, tuple(pairs_of(8))))), 128 - 1 - 1 - 7)


class IsGrown(unittest.TestCase):
    def test_all_ways_of_bringing_in(self):
        for n in range(1, 6):
            for hall in all_halls(n):
                self.assertIs(is_grown(hall), hall in grown_halls(n))

    def test_all_halls_of_up_to_four_grow(self):
        for n in range(1, 5):
            for hall in all_halls(n):
                self.assertIs(is_grown(hall), True)

    def test_five_against_the_ring(self):
        for hall in all_halls(5):
            if not any(member in rings() for member in roads.class_of(hall)):
                self.assertIs(is_grown(hall), True)
            else:
                self.assertIs(is_grown(hall), False)

    def test_six_against_the_ring(self):
        """All leavings behind all turns, each member of the class left by each person as it is."""
        for hall in [*some_halls(6, 25), (6, ((0, 1), (0, 5), (1, 2), (2, 3), (3, 4), (4, 5)))]:
            ringed = False
            for member in roads.class_of(hall):
                for x in range(6):
                    told = roads.without(member, x)
                    ringed = ringed or any(other in rings() for other in roads.class_of(told))
            self.assertIs(is_grown(hall), not ringed)

    def test_six_to_eight_against_the_ring_that_lies_in(self):
        for n, many in ((6, 12), (7, 8), (8, 5)):
            for hall in some_halls(n, many):
                told = any(
                    lies_in(ring, hall, who) for who in itertools.combinations(range(n), 5) for ring in sorted(rings())
                )
                self.assertIs(is_grown(hall), not told)

    def test_classes_grow_as_one(self):
        for n in range(1, 6):
            for hall in all_halls(n) if n < 5 else some_halls(n, 20):
                self.assertEqual({is_grown(member) for member in roads.class_of(hall)}, {is_grown(hall)})
        chance = random.Random(27)
        for n in (6, 7, 8):
            for hall in [*some_halls(n, 10), *[made(drawn_steps(n, chance)) for _ in range(10)]]:
                for x in range(n):
                    self.assertIs(is_grown(turned(hall, x)), is_grown(hall))

    def test_who_leaves_a_hall_that_grows(self):
        chance = random.Random(28)
        for n in range(2, 9):
            for _ in range(10):
                hall = made(drawn_steps(n, chance))
                for x in range(n):
                    for look in "XYZ":
                        self.assertIs(is_grown(left(hall, x, look)), True)

    def test_by_hand(self):
        self.assertIs(is_grown((8, tuple(pairs_of(8)))), True)
        self.assertIs(is_grown((8, ())), True)
        self.assertIs(is_grown((8, tuple((x, x + 1) for x in range(7)))), True)
        self.assertIs(is_grown((8, tuple((x, y) for x in range(4) for y in range(4, 8)))), True)
        for n in range(5, 9):
            self.assertIs(is_grown((n, tuple(sorted([*[(x, x + 1) for x in range(n - 1)], (0, n - 1)])))), False)
        self.assertIs(is_grown((8, ((0, 1), (0, 4), (1, 2), (2, 3), (3, 4), (6, 7)))), False)


class Growth(unittest.TestCase):
    def hold(self, hall):
        told = told_growth(hall)
        if told is None:
            with self.assertRaises(NotGrown):
                growth(hall)
            self.assertIs(is_grown(hall), False)
        else:
            self.assertEqual(growth(hall), told)
            self.assertIs(is_grown(hall), True)
            self.assertEqual(grown(growth(hall)), hall)

    def test_by_the_words(self):
        for n in range(1, 6):
            for hall in all_halls(n):
                self.hold(hall)
        for n in (6, 7, 8):
            for hall in some_halls(n, 30):
                self.hold(hall)

    def test_of_halls_that_grow(self):
        chance = random.Random(29)
        for n in range(1, 9):
            for _ in range(60):
                self.hold(made(drawn_steps(n, chance)))

    def test_by_hand(self):
        self.assertEqual(growth((1, ())), (("alone", 0),))
        self.assertEqual(growth((2, ())), (("alone", 0), ("alone", 1)))
        self.assertEqual(growth((2, ((0, 1),))), (("alone", 0), ("leaf", 1, 0)))
        self.assertEqual(growth((3, tuple(pairs_of(3)))), (("alone", 0), ("leaf", 1, 0), ("twin", 2, 0, "friend")))
        self.assertEqual(growth((4, ((0, 1), (0, 3), (1, 2), (2, 3)))), (
            ("alone", 0), ("leaf", 1, 0), ("leaf", 2, 1), ("twin", 3, 1, "stranger"),
        ))
        # The middle one of three in a row cannot have come last, though it is the greatest.
        self.assertEqual(growth((3, ((0, 2), (1, 2)))), (("alone", 0), ("leaf", 2, 0), ("leaf", 1, 2)))
        # A leaf is told as a leaf, though it is a twin, too.
        self.assertEqual(growth((4, ((0, 1), (0, 2), (0, 3)))), (
            ("alone", 0), ("leaf", 1, 0), ("leaf", 2, 0), ("leaf", 3, 0),
        ))
        self.assertEqual(growth((4, ((2, 3),))), (("alone", 0), ("alone", 1), ("alone", 2), ("leaf", 3, 2)))

    def test_not_grown(self):
        for hall in [*sorted(rings()), (8, ((0, 1), (0, 4), (1, 2), (2, 3), (3, 4), (6, 7)))]:
            with self.assertRaises(NotGrown):
                growth(hall)


class Grown(unittest.TestCase):
    def test_drawn_steps(self):
        chance = random.Random(30)
        for n in range(1, 9):
            for _ in range(100):
                steps = drawn_steps(n, chance)
                hall = grown(steps)
                self.assertIs(is_hall(hall), True)
                self.assertEqual(hall, made(steps))
                self.assertIs(is_grown(hall), True)

    def test_all_steps_of_three_make_all_halls_that_grow(self):
        found = set()
        for order in itertools.permutations(range(3)):
            for two in self.ways(order[1], order[:1]):
                for three in self.ways(order[2], order[:2]):
                    steps = (("alone", order[0]), two, three)
                    self.assertEqual(grown(steps), made(steps))
                    found.add(grown(steps))
        self.assertEqual(found, set(all_halls(3)))

    def ways(self, x, there):
        yield "alone", x
        for y in there:
            yield from [("leaf", x, y), ("twin", x, y, "friend"), ("twin", x, y, "stranger")]

    def test_by_hand(self):
        self.assertEqual(grown((("alone", 0),)), (1, ()))
        self.assertEqual(grown((("alone", 1), ("alone", 0))), (2, ()))
        self.assertEqual(grown((("alone", 1), ("twin", 0, 1, "stranger"))), (2, ()))
        self.assertEqual(grown((("alone", 2), ("leaf", 0, 2), ("twin", 1, 0, "stranger"))), (3, ((0, 2), (1, 2))))
        self.assertEqual(grown((("alone", 2), ("leaf", 0, 2), ("twin", 1, 0, "friend"))), (3, tuple(pairs_of(3))))
        self.assertEqual(grown((("alone", 2), ("leaf", 1, 2), ("alone", 3), ("twin", 0, 3, "friend"))), (4, ((0, 3), (1, 2))))
        eight = tuple(("alone", x) for x in (7, 0, 6, 1, 5, 2, 4, 3))
        self.assertEqual(grown(eight), (8, ()))


class WrongSteps(unittest.TestCase):
    def test_all(self):
        for value in WRONG_STEPS + [nested(kind, deep) for kind in (tuple, list, dict) for deep in range(31)]:
            with self.assertRaises(BadSteps):
                grown(value)

    def test_one_thing_changed(self):
        """Of steps of which one part is changed just those are taken that are steps still."""
        steps = (("alone", 1), ("leaf", 0, 1), ("twin", 2, 0, "friend"))
        for k, step in enumerate(steps):
            for at in range(len(step)):
                for value in ("alone", "leaf", "twin", "friend", "stranger", 0, 1, 2, 3, None, True, (), []):
                    other = (*steps[:k], (*step[:at], value, *step[at + 1:]), *steps[k + 1:])
                    if self.fit(other):
                        self.assertEqual(grown(other), made(other))
                    else:
                        with self.assertRaises(BadSteps):
                            grown(other)

    def fit(self, steps):
        """Whether steps are steps, by looking them up among all that may come."""
        there = []
        for step in steps:
            fit = [("alone", x) for x in range(3) if x not in there]
            fit += [("leaf", x, y) for x in range(3) if x not in there for y in there]
            fit += [("twin", x, y, word) for x in range(3) if x not in there for y in there for word in ("friend", "stranger")]
            if step not in fit or any(type(told) is bool for told in step):
                return False
            there.append(step[1])
        return True
