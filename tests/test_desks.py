"""Promise [24]: the desk, and desks read from texts."""

import itertools
import random
import unittest

from tests import hands, roads
from tests.hands import WRONG, WRONG_HALLS, all_halls, nested, pairs_of, some_halls
from turnfriends.classes import count_members
from turnfriends.desks import Desk, desk_of
from turnfriends.errors import BadHall, BadLook, HallError, InvalidDesk, NoPerson, NotFriends, NothingDone, NotText, Unlike
from turnfriends.halls import ranks, swapped, turned
from turnfriends.leading import paper
from turnfriends.leaving import left
from turnfriends.trees import is_tree

HALL = (3, ((0, 1), (1, 2)))


def shown(desk):
    """All that a desk tells without being asked for anything."""
    return desk.hall(), desk.row(), desk.ranks(), desk.is_tree(), desk.count(), desk.text()


def text_of(hall):
    """The text by pasting one pair behind another."""
    text = f"people {hall[0]}\nfriends"
    for x, y in hall[1]:
        text += " " + str(x) + "-" + str(y)
    return text + "\n"


def behind(hall, step):
    """The hall behind a step, by the functions that the step is told by."""
    if step[0] == "turn":
        return turned(hall, step[1])
    if step[0] == "swap":
        return swapped(hall, step[1], step[2])
    return left(hall, step[1], step[2])


class Steps(unittest.TestCase):
    def hold(self, desk, steps, start):
        """The desk is as the steps tell, each done with the hall behind those ahead of it."""
        hall = start
        for step in steps:
            hall = behind(hall, step)
        self.assertEqual(desk.hall(), hall)
        self.assertEqual(desk.row(), tuple(steps))
        self.assertEqual(desk.text(), text_of(hall))
        self.assertEqual(desk.ranks(), ranks(hall))
        self.assertIs(desk.is_tree(), is_tree(hall))
        return hall

    def drawn_step(self, chance, desk, hall):
        """A step that can be done, drawn, and done."""
        kind = chance.choice(["turn", "turn", "swap", "leave"])
        x = chance.randrange(hall[0])
        if kind == "swap" and hall[1]:
            x, y = chance.sample(chance.choice(hall[1]), 2)
            self.assertIsNone(desk.swap(x, y))
            return "swap", x, y
        if kind == "leave" and hall[0] > 1:
            look = chance.choice("XYZ")
            self.assertIsNone(desk.leave(x, look))
            return "leave", x, look
        self.assertIsNone(desk.turn(x))
        return "turn", x

    def test_drawn_steps(self):
        for seed, start in enumerate([*some_halls(8, 4), *some_halls(5, 6), *some_halls(3, 6), (1, ()), (2, ((0, 1),))]):
            chance = random.Random(seed)
            desk, steps, hall = Desk(start), [], start
            for _ in range(30):
                if chance.random() < 0.35:
                    if steps:
                        self.assertIsNone(desk.undo())
                        steps.pop()
                    else:
                        with self.assertRaises(NothingDone):
                            desk.undo()
                else:
                    steps.append(self.drawn_step(chance, desk, hall))
                hall = self.hold(desk, steps, start)
            self.assertEqual(desk.count(), count_members(hall))
            for other in some_halls(hall[0], 2):
                self.assertEqual(desk.aim(other), paper(hall, other))

    def test_counts_and_papers_behind_each_step(self):
        chance = random.Random(24)
        for start in some_halls(5, 6):
            desk, hall = Desk(start), start
            for _ in range(8):
                hall = behind(hall, self.drawn_step(chance, desk, hall))
                self.assertEqual(desk.count(), len(roads.class_of(hall)))
                for other in [*some_halls(hall[0], 2), turned(hall, 0)]:
                    self.assertEqual(desk.aim(other), paper(hall, other))

    def test_all_is_taken_back(self):
        chance = random.Random(25)
        for start in [*some_halls(8, 2), *some_halls(4, 4)]:
            desk = Desk(start)
            halls = [start]
            for _ in range(20):
                self.drawn_step(chance, desk, halls[-1])
                halls.append(desk.hall())
            for k in range(20, 0, -1):
                self.assertEqual([desk.hall(), len(desk.row())], [halls[k], k])
                desk.undo()
            self.assertEqual([desk.hall(), desk.row()], [start, ()])
            for _ in range(3):
                with self.assertRaises(NothingDone):
                    desk.undo()
                self.assertEqual([desk.hall(), desk.row()], [start, ()])
            desk.turn(0)
            self.assertEqual([desk.hall(), desk.row()], [turned(start, 0), (("turn", 0),)])

    def test_nothing_done(self):
        desk = Desk(HALL)
        self.assertEqual([desk.hall(), desk.row()], [HALL, ()])
        with self.assertRaises(NothingDone):
            desk.undo()
        with self.assertRaises(NothingDone):
            desk_of("people 1\nfriends\n").undo()

    def test_down_to_one_person_and_once_more(self):
        for start in some_halls(8, 4):
            desk = Desk(start)
            for n in range(8, 1, -1):
                desk.leave(n // 2, "XYZ"[n % 3])
                self.assertEqual(desk.hall()[0], n - 1)
            before = shown(desk)
            self.assertEqual([desk.hall(), desk.is_tree(), desk.count(), desk.ranks()], [(1, ()), True, 1, (0, 0)])
            for x, look in ((0, "X"), (0, "Y"), (0, "Z"), (1, "Z"), (0, "W"), (None, None)):
                with self.assertRaises(BadHall):
                    desk.leave(x, look)
                self.assertEqual(shown(desk), before)
            desk.turn(0)
            with self.assertRaises(NotFriends):
                desk.swap(0, 0)
            desk.undo()
            for _ in range(7):
                desk.undo()
            self.assertEqual([desk.hall(), desk.row()], [start, ()])

    def test_by_hand(self):
        desk = Desk(HALL)
        desk.swap(0, 1)
        self.assertEqual([desk.hall(), desk.row()], [(3, ((0, 1), (0, 2))), (("swap", 0, 1),)])
        desk.leave(0, "Y")
        self.assertEqual([desk.hall(), desk.row()], [(2, ((0, 1),)), (("swap", 0, 1), ("leave", 0, "Y"))])
        self.assertEqual([desk.is_tree(), desk.count(), desk.ranks()], [True, 1, (0, 1, 1, 0)])
        self.assertEqual([desk.aim((2, ((0, 1),))), desk.aim((2, ()))], [("turns", ()), ("ranks", (0,))])
        desk.undo()
        desk.undo()
        desk.turn(1)
        self.assertEqual([desk.hall(), desk.row(), desk.is_tree()], [(3, tuple(pairs_of(3))), (("turn", 1),), False])
        self.assertEqual([desk.count(), desk.aim(HALL)], [4, ("turns", (1,))])

    def test_kinds(self):
        desk = Desk(HALL)
        desk.turn(0)
        desk.swap(0, 1)
        for value in (desk.hall(), desk.row(), desk.row()[0], desk.row()[1], desk.ranks(), desk.aim(HALL)):
            self.assertIs(type(value), tuple)
        self.assertEqual([type(desk.count()), type(desk.is_tree()), type(desk.text())], [int, bool, str])

    def test_two_desks_side_by_side(self):
        one, other = Desk(HALL), Desk(HALL)
        one.turn(1)
        self.assertEqual([other.hall(), other.row()], [HALL, ()])
        with self.assertRaises(NothingDone):
            other.undo()
        other.leave(0, "Z")
        third = desk_of(one.text())
        third.swap(0, 2)
        self.assertEqual([one.hall(), one.row()], [(3, tuple(pairs_of(3))), (("turn", 1),)])
        one.undo()
        self.assertEqual([one.hall(), other.row(), third.row()], [HALL, (("leave", 0, "Z"),), (("swap", 0, 2),)])

    def test_rows_that_were_told_stay(self):
        desk = Desk(HALL)
        desk.turn(0)
        told = desk.row()
        desk.turn(1)
        self.assertEqual(told, (("turn", 0),))
        desk.undo()
        desk.undo()
        self.assertEqual(told, (("turn", 0),))


class Wrong(unittest.TestCase):
    def fails(self, error, desk, name, *handed):
        """The very error is raised, and the desk is as it was."""
        before = shown(desk)
        with self.assertRaises(HallError) as caught:
            getattr(desk, name)(*handed)
        self.assertIs(type(caught.exception), error)
        self.assertEqual(shown(desk), before)

    def desk(self):
        desk = Desk((4, ((0, 1), (1, 2), (2, 3))))
        desk.turn(1)
        desk.leave(3, "Z")
        return desk

    def test_halls(self):
        for value in WRONG_HALLS + [nested(kind, deep) for kind in (tuple, list, dict) for deep in range(31)]:
            with self.assertRaises(BadHall):
                Desk(value)

    def test_persons(self):
        desk = self.desk()
        for value in [*hands.WRONG_PERSONS, 3]:
            self.fails(NoPerson, desk, "turn", value)
            self.fails(NoPerson, desk, "swap", value, 0)
            self.fails(NoPerson, desk, "swap", 0, value)
            self.fails(NoPerson, desk, "swap", value, value)
            self.fails(NoPerson, desk, "leave", value, "X")
            self.fails(NoPerson, desk, "leave", value, value)

    def test_friends(self):
        for x in range(3):
            self.fails(NotFriends, self.desk(), "swap", x, x)
        strangers = Desk(HALL)
        self.fails(NotFriends, strangers, "swap", 0, 2)
        self.fails(NotFriends, strangers, "swap", 2, 0)

    def test_looks(self):
        desk = self.desk()
        for value in hands.WRONG_LOOK_VALUES:
            self.fails(BadLook, desk, "leave", 0, value)
            self.fails(NoPerson, desk, "leave", 3, value)

    def test_one_person_before_all(self):
        for value in WRONG:
            self.fails(BadHall, Desk((1, ())), "leave", value, "X")
            self.fails(BadHall, Desk((1, ())), "leave", 0, value)

    def test_aims(self):
        desk = self.desk()
        for value in WRONG_HALLS:
            self.fails(BadHall, desk, "aim", value)
        # The desk has three people now, of four at the beginning.
        for n in (1, 2, 4, 5, 8):
            self.fails(Unlike, desk, "aim", (n, ()))
        self.assertEqual(desk.aim((3, ())), ("ranks", (0,)))

    def test_undo(self):
        self.fails(NothingDone, Desk(HALL), "undo")
        desk = self.desk()
        desk.undo()
        desk.undo()
        self.fails(NothingDone, desk, "undo")


class Texts(unittest.TestCase):
    def test_there_and_back(self):
        for n in range(1, 9):
            for hall in all_halls(n) if n < 5 else some_halls(n, 20):
                text = Desk(hall).text()
                self.assertEqual(text, text_of(hall))
                desk = desk_of(text)
                self.assertIs(type(desk), Desk)
                self.assertEqual([desk.hall(), desk.row(), desk.text()], [hall, (), text])

    def test_by_hand(self):
        self.assertEqual(Desk((1, ())).text(), "people 1\nfriends\n")
        self.assertEqual(Desk((8, ((0, 7), (1, 2)))).text(), "people 8\nfriends 0-7 1-2\n")
        self.assertEqual(desk_of("people 8\nfriends 0-7 1-2\n").hall(), (8, ((0, 7), (1, 2))))

    def test_what_is_read_can_be_turned(self):
        desk = desk_of("people 3\nfriends 0-1 1-2\n")
        desk.turn(1)
        desk.leave(0, "Z")
        self.assertEqual([desk.hall(), desk.row()], [(2, ((0, 1),)), (("turn", 1), ("leave", 0, "Z"))])

    def invalid(self, at, text):
        with self.assertRaises(InvalidDesk) as caught:
            desk_of(text)
        self.assertEqual(caught.exception.at, at, repr(text))

    def test_no_texts(self):
        for value in [value for value in WRONG_HALLS if not isinstance(value, str)] + [["people 1\nfriends\n"], b"people 1\n"]:
            with self.assertRaises(NotText):
                desk_of(value)

    def test_texts_that_end_too_early(self):
        self.invalid(0, "")
        self.invalid(0, "people 3")
        self.invalid(0, "p")
        self.invalid(1, "people 3\n")
        self.invalid(1, "people 3\nfriends")
        self.invalid(1, "people 3\nfriends 0-1")
        self.invalid(1, "people 3\nx")

    def test_lines_too_many(self):
        for rest in ("\n", "x", "\n\n", " ", "\r", "\r\n", "people 3\nfriends\n", "friends\n", "\nx", "\v", "\0", "\u00e9"):
            self.invalid(2, "people 3\nfriends 0-1\n" + rest)
            self.invalid(2, "people 1\nfriends\n" + rest)
        self.invalid(0, "\npeople 3\nfriends\n")
        self.invalid(1, "people 3\n\nfriends\n")
        self.invalid(0, "\n")
        self.invalid(0, "\n\n")
        self.invalid(0, "friends 0-1\npeople 3\n")

    def test_first_lines(self):
        for line in (
            "people", "people ", "people 0", "people 9", "people 10", "people 03", "people 00", "people -1", "people +3",
            "people 3.", "people 3 ", " people 3", "people  3", "people\t3", "People 3", "peoples 3", "people three",
            "people 3\r", "people3", "people 3 3", "person 3", "people \u0663", "people \u00b3", "people\u00a03", "people 3\u2028",
            "people 3\v", "people 3\x85", "people 1_0", "people 8 friends", "friends", "", " ", "people " + "3" * 5000,
        ):
            for rest in ("\nfriends\n", "\nfriends 0-1\n", "\n", "", "\nfriends", "\n\n\n"):
                self.invalid(0, line + rest)

    def test_second_lines(self):
        for line in (
            "", " ", "friend", "Friends", "friends ", " friends", "friends  ", "friends 0-1 ", " friends 0-1", "friends  0-1",
            "friends 0-1  1-2", "friends\t0-1", "friends 0-1\t1-2", "friends 0-1,1-2", "friends 0-3", "friends 3-4",
            "friends 1-0", "friends 0-0", "friends 0-1 0-1", "friends 0-1 1-0", "friends 1-2 0-1", "friends 0-2 0-1",
            "friends 0-1 1-2 0-2", "friends 00-1", "friends 0-01", "friends 0 -1", "friends 0- 1", "friends 0 - 1",
            "friends 0--1", "friends -0-1", "friends 0-1-2", "friends 0-", "friends -1", "friends -", "friends 01",
            "friends 0", "friends 0-x", "friends x-1", "friends 0-1 x", "friends0-1", "friends 0-1\r", "friends 0-1\v",
            "friends 0-1\x85", "friends 0-1\u2028", "friends 0-\u0661", "friends \u0660-1", "friends 0\u20111", "friends\u00a00-1",
            "friends +0-1", "friends 0-+1", "friends 0-1.", "friends 0-1 -", "friends 0_0-1", "friends 0-" + "1" * 5000,
            "friends friends", "people 3", "friends 1-8", "friends 0-1\x00", "friends 0-1 \r",
        ):
            for rest in ("\n", "\n\n", "\nx", "\npeople 3\n"):
                self.invalid(1, "people 3\n" + line + rest)

    def test_persons_of_the_hall(self):
        for n in range(1, 9):
            for x, y in itertools.combinations(range(10), 2):
                text = f"people {n}\nfriends {x}-{y}\n"
                if y < n:
                    self.assertEqual(desk_of(text).hall(), (n, ((x, y),)))
                else:
                    self.invalid(1, text)

    def test_bent_at_each_sign(self):
        """One sign left out, put in or changed: what is still read is told again as it stands."""
        for hall in ((3, ((0, 1), (1, 2))), (1, ()), (8, ((0, 7), (6, 7))), (2, ((0, 1),))):
            text = Desk(hall).text()
            bent = [text[:k] + text[k + 1:] for k in range(len(text))]
            signs = "0123456789-+ \n\r\t.xpf\u0661\u00e9"
            bent += [text[:k] + sign + text[k + 1:] for k in range(len(text)) for sign in signs]
            bent += [text[:k] + sign + text[k:] for k in range(len(text) + 1) for sign in signs]
            bent += [text[:k] for k in range(len(text))]
            for other in bent:
                self.hold_bent(other)

    def hold_bent(self, text):
        """A text is read just if it is one that a desk tells; else the first line that no such text has there is told."""
        ended = text.split("\n")[:-1]
        peoples = {f"people {n}": n for n in range(1, 9)}
        if not ended or ended[0] not in peoples:
            self.invalid(0, text)
            return
        n = peoples[ended[0]]
        if len(ended) < 2 or not self.is_second(ended[1], n):
            self.invalid(1, text)
        elif text != ended[0] + "\n" + ended[1] + "\n":
            self.invalid(2, text)
        else:
            self.assertEqual(desk_of(text).text(), text)

    def is_second(self, line, n):
        """Whether a line tells pairs, read sign by sign."""
        told = []
        for k in range(7, len(line), 4):
            piece = line[k:k + 4]
            if len(piece) < 4 or piece[0] != " " or piece[2] != "-" or piece[1] not in "01234567" or piece[3] not in "01234567":
                return False
            told.append((int(piece[1]), int(piece[3])))
        right = all(x < y < n for x, y in told) and told == sorted(set(told))
        return line[:7] == "friends" and right

    def test_long_texts(self):
        self.invalid(1, "people 3\nfriends" + " 0-1" * 100000 + "\n")
        self.invalid(0, "people 3" * 100000)
        self.invalid(2, "people 3\nfriends\n" + "\n" * 100000)
        self.invalid(0, "x" * (10 ** 6))

    def test_huge_numbers(self):
        self.invalid(0, f"people {'9' * 20000}\nfriends\n")
        self.invalid(1, f"people 8\nfriends 0-{'7' * 20000}\n")
