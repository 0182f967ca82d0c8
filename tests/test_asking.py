"""Promises [29] to [31]: signs of rows, what can come when people are asked, tables, and what bars them."""

import functools
import itertools
import random
import unittest

from tests import hands, roads
from tests.hands import WRONG, WRONG_HALLS, all_halls, nested, pairs_of, some_halls
from turnfriends.asking import bars, is_table, outcomes, sign_of, table
from turnfriends.choosing import choices, left_over, signs_over
from turnfriends.errors import BadChoice, BadHall, BadLooks, NotInRoom
from turnfriends.halls import friends
from turnfriends.looks import added, own_row, room

# The product of two unlike looks is the third one, times the root of -1 or, the other way round, less that.
AHEAD = ("XY", "YZ", "ZX")


def product_of(one, other):
    """The product of two rows: the number of roots of -1, and the row."""
    roots = 0
    for left, right in zip(one, other):
        if left + right in AHEAD:
            roots += 1
        elif right + left in AHEAD:
            roots += 3
    return roots, roads.added(one, other)


@functools.lru_cache(maxsize=None)
def signs(hall):
    """For each row of the room the sign of the product of the own rows that it comes of."""
    told = {}
    for lot in roads.lots(hall[0]):
        roots, row = 0, "." * hall[0]
        for x in lot:
            more, row = product_of(row, roads.own_row(hall, x))
            roots += more
        told[row] = {0: 1, 2: -1}[roots % 4]
    return told


SEEN = {"X": ((1, 1), (1, -1)), "Y": ((1, 1j), (1, -1j)), "Z": ((1, 0), (0, 1))}


def can_come(hall, choice, answers):
    """Whether answers can come, reckoned as in physics: friends are pairs of bits that turn the sign."""
    total = 0
    for bits in itertools.product((0, 1), repeat=hall[0]):
        part = (-1) ** sum(bits[x] * bits[y] for x, y in hall[1])
        for look, answer, bit in zip(choice, answers, bits):
            part *= complex(SEEN[look][int(answer)][bit]).conjugate()
        total += part
    return total != 0


def texts(many):
    return ["".join(told) for told in itertools.product("01", repeat=many)]


def answered(row, told):
    """The number of ones that a table has at the looks of a row."""
    return sum(told[3 * x:3 * x + 3]["XYZ".index(look)] == "1" for x, look in enumerate(row) if look != ".")


def fits(hall, told):
    return all(answered(row, told) % 2 == (sign == -1) for row, sign in signs(hall).items())


def two_friends(hall):
    return any(len(friends(hall, x)) > 1 for x in range(hall[0]))


class Signs(unittest.TestCase):
    def test_products(self):
        for n in range(1, 5):
            for hall in all_halls(n):
                for row in room(hall):
                    self.assertEqual(sign_of(hall, row), signs(hall)[row])
        for n in range(5, 9):
            for hall in some_halls(n, 8):
                for row in room(hall):
                    self.assertEqual(sign_of(hall, row), signs(hall)[row])

    def test_by_the_words(self):
        for n in range(1, 9):
            for hall in some_halls(n, 8):
                for row in room(hall):
                    lot = [x for x in range(n) if row[x] in "XY"]
                    pairs = [pair for pair in hall[1] if set(pair) <= set(lot)]
                    half, rest = divmod(row.count("Y"), 2)
                    self.assertEqual(rest, 0)
                    self.assertEqual(sign_of(hall, row), -1 if (len(pairs) + half) % 2 else 1)

    def test_own_rows_and_the_void_one(self):
        for n in range(1, 9):
            for hall in some_halls(n, 8):
                self.assertEqual([sign_of(hall, own_row(hall, x)) for x in range(n)], [1] * n)
                self.assertEqual(sign_of(hall, "." * n), 1)

    def test_by_hand(self):
        path = (3, ((0, 1), (1, 2)))
        self.assertEqual({row: sign_of(path, row) for row in room(path)}, {
            "...": 1, ".ZX": 1, "X.X": 1, "XZ.": 1, "YXY": -1, "YYZ": 1, "ZXZ": 1, "ZYY": 1,
        })
        everybody = (3, tuple(pairs_of(3)))
        # Three pairs and no Y; one pair and two Y's.
        self.assertEqual([sign_of(everybody, "XXX"), sign_of(everybody, "YY.")], [-1, 1])
        self.assertEqual(sign_of((8, ()), "X" * 8), 1)

    def test_not_in_the_room(self):
        for n in range(1, 4):
            for hall in all_halls(n):
                for row in set(roads.rows_of_looks(n)) - set(room(hall)):
                    with self.assertRaises(NotInRoom):
                        sign_of(hall, row)

    def test_wrong_values(self):
        for value in hands.WRONG_LOOKS:
            with self.assertRaises(BadLooks):
                sign_of((3, ((0, 1), (1, 2))), value)
        for value in WRONG_HALLS:
            for row in ("...", "XXX", "", None, value):
                with self.assertRaises(BadHall):
                    sign_of(value, row)
        with self.assertRaises(NotInRoom):
            sign_of((8, ()), "Z" * 8)
        with self.assertRaises(BadLooks):
            sign_of((8, ()), "Z" * 7)


class Outcomes(unittest.TestCase):
    def hold(self, hall, choice):
        """Ascending, 2 ** (n - k) of them, and just those that the rows left over let come."""
        told = outcomes(hall, choice)
        self.assertEqual(type(told), tuple)
        self.assertEqual(len(told), 2 ** (hall[0] - signs_over(hall, choice)))
        self.assertEqual(list(told), sorted(set(told)))
        rows = [(row, signs(hall)[row]) for row in left_over(hall, choice)]
        for text in told[::max(1, len(told) // 16)]:
            self.assertEqual(len(text), hall[0])
            for row, sign in rows:
                ones = [answer for answer, look in zip(text, row) if look != "." and answer == "1"]
                self.assertEqual(len(ones) % 2, int(sign == -1))

    def test_all_choices_of_up_to_four(self):
        for n in range(1, 5):
            for hall in all_halls(n):
                for choice in roads.choices_of(n):
                    self.hold(hall, choice)

    def test_what_can_come_in_physics(self):
        for n in range(1, 4):
            for hall in all_halls(n):
                for choice in roads.choices_of(n):
                    told = tuple(text for text in texts(n) if can_come(hall, choice, text))
                    self.assertEqual(outcomes(hall, choice), told)
        for hall in some_halls(4, 6):
            for choice in roads.choices_of(4):
                told = tuple(text for text in texts(4) if can_come(hall, choice, text))
                self.assertEqual(outcomes(hall, choice), told)

    def test_up_to_eight_people(self):
        chance = random.Random(35)
        for n in range(5, 9):
            for hall in some_halls(n, 8):
                for _ in range(12):
                    self.hold(hall, "".join(chance.choice("XYZ") for _ in range(n)))
                for look in "XYZ":
                    self.hold(hall, look * n)

    def test_all_can_come_where_nothing_is_left_over(self):
        for n in range(1, 5):
            for hall in some_halls(n, 4):
                for choice in choices(hall):
                    self.assertEqual(outcomes(hall, choice), tuple(texts(n)))

    def test_by_hand(self):
        self.assertEqual(outcomes((1, ()), "X"), ("0",))
        self.assertEqual(outcomes((1, ()), "Y"), ("0", "1"))
        self.assertEqual(outcomes((2, ((0, 1),)), "YY"), ("00", "11"))
        self.assertEqual(outcomes((3, tuple(pairs_of(3))), "XXX"), ("001", "010", "100", "111"))
        self.assertEqual(outcomes((8, ()), "X" * 8), ("0" * 8,))
        self.assertEqual(outcomes((8, ()), "Z" * 8), tuple(texts(8)))

    def test_wrong_values(self):
        for value in hands.WRONG_CHOICES:
            with self.assertRaises(BadChoice):
                outcomes((3, ((0, 1),)), value)
        for value in WRONG_HALLS:
            for choice in ("ZZZ", "", None, value):
                with self.assertRaises(BadHall):
                    outcomes(value, choice)


class Tables(unittest.TestCase):
    def test_all_texts_of_up_to_three(self):
        for n in range(1, 4):
            for hall in all_halls(n):
                fit = [told for told in texts(3 * n) if fits(hall, told)]
                self.assertEqual([told for told in texts(3 * n) if is_table(hall, told)], fit)
                self.assertEqual(table(hall), fit[0] if fit else None)
                self.assertIs(table(hall) is None, two_friends(hall))

    def test_some_texts_of_four(self):
        chance = random.Random(36)
        for hall in all_halls(4):
            for _ in range(20):
                told = "".join(chance.choice("01") for _ in range(12))
                self.assertIs(is_table(hall, told), fits(hall, told))

    def test_none_exactly_if_some_person_has_two_friends(self):
        twos = [(n, tuple((x, x + 1) for x in range(0, many, 2))) for n in range(1, 9) for many in range(0, n, 2)]
        crossed = [(8, ((0, 7), (1, 6), (2, 5), (3, 4))), (7, ((0, 4), (1, 6))), (6, ((1, 5), (2, 4)))]
        for hall in [*twos, *crossed, *all_halls(4), *[hall for n in range(5, 9) for hall in some_halls(n, 12)]]:
            told = table(hall)
            self.assertIs(told is None, two_friends(hall))
            if told is not None:
                self.assertEqual(len(told), 3 * hall[0])
                self.assertIs(is_table(hall, told), True)
                self.assertIs(fits(hall, told), True)
            else:
                self.assertIs(is_table(hall, "0" * 3 * hall[0]), False)

    def test_tables_that_fit_have_answers_that_can_come(self):
        for n in range(1, 4):
            for hall in all_halls(n):
                for told in [told for told in texts(3 * n) if is_table(hall, told)][::3]:
                    for choice in roads.choices_of(n):
                        answers = "".join(told[3 * x + "XYZ".index(look)] for x, look in enumerate(choice))
                        self.assertIn(answers, outcomes(hall, choice))

    def test_any_value(self):
        pair = (2, ((0, 1),))
        for value in [
            *WRONG, *WRONG_HALLS, 0, "0", "00000", "0000000", "000002", "00000x", "00000 ", " 00000", "00000\n", "0" * 7,
            "00000\u0660", ["000000"], ["0"] * 6, ("0",) * 6, (0,) * 6, {"000000": 1}, b"000000", 0, "0" * 10 ** 6, "1" * 6 + "0",
        ]:
            self.assertIs(is_table(pair, value), False)
        for kind in (tuple, list, dict):
            for deep in range(31):
                self.assertIs(is_table(pair, nested(kind, deep)), False)
        self.assertIs(is_table(pair, "000000"), True)
        # The answers to X of the one and to Z of the other are the same, and so are those to Y.
        self.assertEqual([is_table(pair, told) for told in ("100001", "010010", "001100", "111111")], [True] * 4)
        self.assertEqual([is_table(pair, told) for told in ("100000", "010000", "100100", "011010")], [False] * 4)

    def test_lengths(self):
        for n in range(1, 9):
            for m in range(30):
                self.assertIs(is_table((n, ()), "0" * m), m == 3 * n)

    def test_wrong_halls(self):
        for value in WRONG_HALLS:
            for function in (table, bars):
                with self.assertRaises(BadHall):
                    function(value)
            for told in ("000", "000000000", None, value):
                with self.assertRaises(BadHall):
                    is_table(value, told)

    def test_by_hand(self):
        self.assertEqual([table((n, ())) for n in range(1, 9)], ["000" * n for n in range(1, 9)])
        self.assertEqual(table((8, ((0, 7), (1, 2), (3, 6)))), "0" * 24)
        self.assertIsNone(table((8, ((3, 6), (6, 7)))))
        # A person without friends always answers 0 to X.
        self.assertEqual([told for told in texts(3) if is_table((1, ()), told)], ["000", "001", "010", "011"])


class Bars(unittest.TestCase):
    def hold(self, hall):
        rows = bars(hall)
        if not two_friends(hall):
            self.assertIsNone(rows)
            return
        x = min(x for x in range(hall[0]) if len(friends(hall, x)) > 1)
        y, z = friends(hall, x)[:2]
        of_x, of_y, of_z = [roads.own_row(hall, person) for person in (x, y, z)]
        all_three = roads.added(roads.added(of_x, of_y), of_z)
        if roads.are_friends(hall, y, z):
            self.assertEqual(rows, (of_x, of_y, of_z, all_three))
        else:
            self.assertEqual(rows, (of_x, roads.added(of_x, of_y), roads.added(of_x, of_z), all_three))
        for person in range(hall[0]):
            for look in "XYZ":
                self.assertEqual(sum(row[person] == look for row in rows) % 2, 0)
        self.assertEqual(sum(signs(hall)[row] == -1 for row in rows) % 2, 1)

    def test_all_halls_of_up_to_four(self):
        for n in range(1, 5):
            for hall in all_halls(n):
                self.hold(hall)

    def test_up_to_eight_people(self):
        for n in range(5, 9):
            for hall in some_halls(n, 40):
                self.hold(hall)

    def test_by_hand(self):
        everybody = (3, tuple(pairs_of(3)))
        self.assertEqual(bars(everybody), ("XZZ", "ZXZ", "ZZX", "XXX"))
        self.assertEqual(bars((4, ((0, 3), (1, 3), (2, 3)))), ("ZZZX", "YZZY", "ZYZY", "YYZX"))
        # The least person who has two friends is 2; of these 0 and 4 come first.
        hall = (6, ((0, 2), (1, 3), (2, 4), (2, 5)))
        x_and_0, x_and_4 = added(own_row(hall, 2), own_row(hall, 0)), added(own_row(hall, 2), own_row(hall, 4))
        self.assertEqual(bars(hall), (own_row(hall, 2), x_and_0, x_and_4, added(x_and_0, own_row(hall, 4))))
        for hall in ((1, ()), (2, ((0, 1),)), (8, ()), (8, ((0, 7), (1, 6), (2, 5), (3, 4)))):
            self.assertIsNone(bars(hall))
        self.assertEqual(bars((8, ((5, 6), (5, 7)))), (".....XZZ", ".....YYZ", ".....YZY", ".....XYY"))
