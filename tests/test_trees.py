"""Promise [19]: trees and their names."""

import itertools
import random
import unittest

from tests import roads
from tests.hands import all_halls, pairs_of, some_halls
from turnfriends.errors import NoTree
from turnfriends.halls import renamed
from turnfriends.trees import is_tree, tree_name

# How many trees of so many people there are, those led to one another by renaming counted once.
UNLIKE_TREES = {1: 1, 2: 1, 3: 1, 4: 2, 5: 3, 6: 6, 7: 11, 8: 23}


def all_trees(n):
    """All trees of n people."""
    return [hall for hall in all_halls(n) if len(hall[1]) == n - 1 and len(roads.parts(hall)) == 1]


def grown_trees(n):
    """A tree for each name, by bringing in one leaf behind another."""
    trees = {(1, ())}
    for m in range(2, n + 1):
        trees = {(m, tuple(sorted(pairs + ((y, m - 1),)))) for _, pairs in trees for y in range(m - 1)}
        by_name = {}
        for tree in sorted(trees):
            by_name.setdefault(least_renamed_name(tree), []).append(tree)
        trees = {told[0] for told in by_name.values()}
    return sorted(trees)


def least_renamed_name(tree):
    return min(name_by_layers(tree, top) for top in range(tree[0]))


def name_by_layers(tree, top):
    """The name with one person on top, from the lowest layer up."""
    above, order = {top: None}, [top]
    for x in order:
        for y in roads.friends(tree, x):
            if y != above[x]:
                above[y] = x
                order.append(y)
    beneath = {x: [] for x in order}
    for x in reversed(order):
        name = "(" + "".join(sorted(beneath[x])) + ")"
        if x == top:
            return name
        beneath[above[x]].append(name)


def renamings(hall):
    return {renamed(hall, order) for order in itertools.permutations(range(hall[0]))}


def some_trees(n, many):
    chance = random.Random(n)
    for _ in range(many):
        order = chance.sample(range(n), n)
        pairs = [(order[k], order[chance.randrange(k)]) for k in range(1, n)]
        yield n, tuple(sorted((min(pair), max(pair)) for pair in pairs))


class IsTree(unittest.TestCase):
    def test_all_halls_of_up_to_five(self):
        for n in range(1, 6):
            for hall in all_halls(n):
                self.assertIs(is_tree(hall), len(hall[1]) == n - 1 and len(roads.parts(hall)) == 1)

    def test_numbers_of_trees(self):
        """n ** (n - 2) trees of n people."""
        for n in range(2, 6):
            self.assertEqual(sum(is_tree(hall) for hall in all_halls(n)), n ** (n - 2))

    def test_one_person(self):
        self.assertIs(is_tree((1, ())), True)
        self.assertEqual(tree_name((1, ())), "()")

    def test_too_many_pairs(self):
        for hall in ((3, ((0, 1), (0, 2), (1, 2))), (4, ((0, 1), (0, 3), (1, 2), (2, 3))), (8, tuple(pairs_of(8)))):
            self.assertIs(is_tree(hall), False)
            with self.assertRaises(NoTree):
                tree_name(hall)

    def test_as_many_pairs_that_do_not_hang_together(self):
        for hall in (
            (4, ((0, 1), (0, 2), (1, 2))), (4, ((1, 2), (1, 3), (2, 3))), (5, ((0, 1), (2, 3), (2, 4), (3, 4))),
            (8, ((0, 1), (0, 2), (0, 3), (1, 2), (4, 5), (5, 6), (6, 7))), (6, ((0, 1), (0, 2), (1, 2), (3, 4), (4, 5))),
        ):
            self.assertEqual(len(hall[1]), hall[0] - 1)
            self.assertIs(is_tree(hall), False)
            with self.assertRaises(NoTree):
                tree_name(hall)

    def test_too_few_pairs(self):
        for hall in ((2, ()), (8, ()), (3, ((0, 2),)), (4, ((0, 1), (2, 3))), (8, tuple((x, x + 1) for x in range(6)))):
            self.assertIs(is_tree(hall), False)
            with self.assertRaises(NoTree):
                tree_name(hall)

    def test_up_to_eight(self):
        for n in range(5, 9):
            for tree in some_trees(n, 30):
                self.assertIs(is_tree(tree), True)
                self.assertIs(is_tree((n, tree[1][1:])), False)
                more = sorted(set(pairs_of(n)) - set(tree[1]))
                self.assertIs(is_tree((n, tuple(sorted([*tree[1], more[n % len(more)]])))), False)
            for hall in some_halls(n, 40):
                self.assertIs(is_tree(hall), len(hall[1]) == n - 1 and len(roads.parts(hall)) == 1)


class Names(unittest.TestCase):
    def test_common_names_are_renamings(self):
        for n in range(1, 6):
            trees = all_trees(n)
            for tree in trees:
                alike = {other for other in trees if tree_name(other) == tree_name(tree)}
                self.assertEqual(alike, renamings(tree))

    def test_as_told(self):
        for n in range(1, 6):
            for tree in all_trees(n):
                self.assertEqual(tree_name(tree), least_renamed_name(tree))
        for n in (6, 7, 8):
            for tree in some_trees(n, 60):
                self.assertEqual(tree_name(tree), least_renamed_name(tree))

    def test_numbers_of_names(self):
        for n, many in UNLIKE_TREES.items():
            trees = grown_trees(n)
            self.assertEqual(len({tree_name(tree) for tree in trees}), many)
            self.assertEqual(len(trees), many)

    def test_renamed_trees_of_eight(self):
        chance = random.Random(19)
        for tree in grown_trees(8):
            for _ in range(6):
                order = tuple(chance.sample(range(8), 8))
                self.assertEqual(tree_name(renamed(tree, order)), tree_name(tree))

    def test_by_hand(self):
        self.assertEqual(tree_name((2, ((0, 1),))), "(())")
        self.assertEqual(tree_name((3, ((0, 2), (1, 2)))), "((()))")
        # Four in a row, and three around one.
        self.assertEqual(tree_name((4, ((0, 1), (1, 2), (2, 3)))), "(((())))")
        self.assertEqual(tree_name((4, ((0, 1), (0, 2), (0, 3)))), "((()()))")
        self.assertEqual(tree_name((5, ((0, 1), (0, 2), (0, 3), (3, 4)))), "(((()())))")
        self.assertEqual(tree_name((8, tuple((x, x + 1) for x in range(7)))), "(" * 8 + ")" * 8)
        self.assertEqual(tree_name((8, tuple((x, 7) for x in range(7)))), "((()()()()()()))")

    def test_trees_of_one_class(self):
        """Trees led to one another by turns are led to one another by renaming, too."""
        for n in range(1, 7):
            seen = set()
            for tree in all_trees(n) if n < 6 else grown_trees(n):
                if tree not in seen:
                    alike = [hall for hall in roads.class_of(tree) if is_tree(hall)]
                    seen.update(alike)
                    self.assertEqual({tree_name(other) for other in alike}, {tree_name(tree)})

    def test_trees_of_one_class_of_eight(self):
        for tree in list(some_trees(8, 3)):
            alike = [hall for hall in roads.class_of(tree) if is_tree(hall)]
            self.assertEqual({tree_name(other) for other in alike}, {tree_name(tree)})
