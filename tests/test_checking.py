"""Promises [5] and [6]: what is a program, and which error a text has at which place."""

import copy
import random
import unittest

from tests.grammar import place_of_error
from tests.hands import WRONG, nested
from tests.making import altered, programs
from turnfriends.errors import BadPair, HallError, InvalidText, NotText
from turnfriends.printing import check, printed, start_of

HEAD = "people 3 friends "

# The ^ stands ahead of the first piece that cannot stand, and is left out of the text.
CANNOT_STAND = """
^
^friends
^3
^peopl 3 friends
people^
people ^friends
people ^0 friends
people ^9 friends
people ^10 friends
people ^99 friends
people ^a friends
people ^- 3 friends
people ^03 friends
people ^(3) friends
people 3^
people 3 ^3 friends
people 3 ^friend
people 3 ^turn 1
people 3 friends ^friends
people 3 friends ^-
people 3 friends ^a
people 3 friends ^else { }
people 3 friends ^people
people 3 friends ^circle(0)
people 3 friends ^{ }
people 3 friends 0^
people 3 friends 0-^
people 3 friends 0 ^1
people 3 friends 0 ^turn 1
people 3 friends 0-^-1
people 3 friends 0-^a
people 3 friends 0-^turn
people 3 friends 0-^(1)
people 3 friends 0-1^-2
people 3 friends 0-1^, 1-2
people 3 friends 0-1 2^
people 3 friends 0-1 2 ^turn
people 3 friends 0-^01
people 3 friends 0-^100
people 3 friends ^00-1
people 3 friends turn^
people 3 friends turn ^turn
people 3 friends turn ^}
people 3 friends turn ^)
people 3 friends turn ^,
people 3 friends turn ^=
people 3 friends turn ^+1
people 3 friends turn ^*1
people 3 friends turn ^mod
people 3 friends turn ^else
people 3 friends turn 1 ^2
people 3 friends turn 1 ^a
people 3 friends turn a ^(1)
people 3 friends turn 1 ^people
people 3 friends turn 1^, 2
people 3 friends turn 1^)
people 3 friends turn 1 ^}
people 3 friends turn 1 ^{ }
people 3 friends turn 1 ^= 1
people 3 friends turn 1 ^else { }
people 3 friends turn 1 ^friends
people 3 friends turn 1 ^circle(1)
people 3 friends turn 1 +^
people 3 friends turn 1 + ^+ 1
people 3 friends turn 1 - ^* 1
people 3 friends turn 1 * ^mod 1
people 3 friends turn 1 mod^
people 3 friends turn 1 mod ^}
people 3 friends turn -^
people 3 friends turn - ^+1
people 3 friends turn (^
people 3 friends turn (^)
people 3 friends turn (1^
people 3 friends turn (1 ^2)
people 3 friends turn (1 ^turn 1
people 3 friends turn (1^, 2)
people 3 friends turn (1^}
people 3 friends turn circle^
people 3 friends turn circle ^0
people 3 friends turn circle ^circle(0)
people 3 friends turn circle(^)
people 3 friends turn circle(0^
people 3 friends turn circle(0^, 1)
people 3 friends swap^
people 3 friends swap 0^
people 3 friends swap 0 ^1
people 3 friends swap 0,^
people 3 friends swap 0, ^,
people 3 friends swap 0, 1^, 2
people 3 friends swap ^, 1
people 3 friends if 0^
people 3 friends if 0 ^{ }
people 3 friends if 0, ^{ }
people 3 friends if 0, 1^
people 3 friends if 0, 1 ^turn 1
people 3 friends if 0, 1 ^else { }
people 3 friends if 0, 1 {^
people 3 friends if 0, 1 { turn 1^
people 3 friends if 0, 1 { turn 1 ^)
people 3 friends if 0, 1 { ^1
people 3 friends if 0, 1 { } else^
people 3 friends if 0, 1 { } else ^turn 1
people 3 friends if 0, 1 { } else ^if 0, 1 { }
people 3 friends if 0, 1 { } else {^
people 3 friends if 0, 1 { } else { } ^else { }
people 3 friends if 0, 1 { } ^}
people 3 friends if 0, 1 { } ^{ }
people 3 friends when 0^, 1 { }
people 3 friends when ^{ }
people 3 friends when 0^
people 3 friends when 0 { } else { } ^else { }
people 3 friends when 0 { ^else { } }
people 3 friends repeat 0 { } ^else { }
people 3 friends repeat ^{ }
people 3 friends repeat 2^
people 3 friends repeat 2 ^turn 1
people 3 friends repeat 2 { repeat 2 { }^
people 3 friends let^
people 3 friends let ^1 = 1
people 3 friends let ^= 1
people 3 friends let ^people = 1
people 3 friends let ^friends = 1
people 3 friends let ^turn = 1
people 3 friends let ^swap = 1
people 3 friends let ^if = 1
people 3 friends let ^when = 1
people 3 friends let ^else = 1
people 3 friends let ^repeat = 1
people 3 friends let ^let = 1
people 3 friends let ^say = 1
people 3 friends let ^circle = 1
people 3 friends let ^mod = 1
people 3 friends let ^abcdefghi = 1
people 3 friends let a^
people 3 friends let a ^1
people 3 friends let a ^b = 1
people 3 friends let a =^
people 3 friends let a = ^= 1
people 3 friends let a = ^let
people 3 friends let a = 1 ^= 1
people 3 friends let a^B = 1
people 3 friends let a^_b = 1
people 3 friends say ^abcdefghi
people 3 friends say ^abcdefghijklmnopq
people 3 friends say turnturn^1
people 3 friends say ^peopleturn1
people 3 friends say ^100
people 3 friends say ^1000000000000000000000
people 3 friends say ^00
people 3 friends say ^01
people 3 friends say ^007
people 3 friends say ^A
people 3 friends say ^A 100 01
people 3 friends say 1 ^/ 2
people 3 friends say 1^.5
people 3 friends say 1^;
people 3 friends say a ^< b
people 3 friends say a ^% b
people 3 friends say a ^[0]
people 3 friends say ^"a"
people 3 friends say 1^a
people 3 friends say 1 ^!
^People 3 friends
^@ people 3 friends
^personswho 3
""".strip("\n").split("\n")

OTHER_SIGNS = ["\t", "\r", "\v", "\f", "\0", "\x1c", "\x85", "\xa0", "\u2028", "\u3000", "\u00e9", "\u00df", "\u0661",
               "\u00b2", "\uff11", "\uff41", "\u2212", "\U0001f600", "\ud800", "_", "%", "^", "~", "A", "Z", "'", "\\"]


class Places(unittest.TestCase):
    def place(self, text):
        """All three functions tell the same place, which is returned."""
        for function in (check, printed, start_of):
            with self.assertRaises(InvalidText, msg=text) as caught:
                function(text)
        self.assertIs(type(caught.exception), InvalidText)
        self.assertIs(type(caught.exception.place), int)
        return caught.exception.place

    def pair(self, text):
        for function in (check, printed, start_of):
            with self.assertRaises(BadPair, msg=text) as caught:
                function(text)
        return caught.exception.x, caught.exception.y


class Texts(Places):
    def test_no_texts(self):
        for value in [*WRONG, 0, (), b"people 3 friends", ["people 3 friends"], ("people 3 friends",), {"people": 3}]:
            if not isinstance(value, str):
                for function in (check, printed, start_of):
                    before = copy.deepcopy(value)
                    with self.assertRaises(HallError) as caught:
                        function(value)
                    self.assertIs(type(caught.exception), NotText)
                    self.assertEqual(value, before)

    def test_check_tells_nothing(self):
        self.assertIsNone(check("people 1 friends"))
        self.assertIsNone(check(HEAD + "0-1 if 0, a { say -1 } else { turn people }"))

    def test_places(self):
        for line in CANNOT_STAND:
            place = line.index("^")
            text = line[:place] + line[place + 1:]
            self.assertEqual(self.place(text), place, text)
            self.assertEqual(place_of_error(text), place, text)
            # Line ends in place of blanks change nothing, and blanks behind only the length.
            self.assertEqual(self.place(text.replace(" ", "\n")), place, text)
            self.assertEqual(self.place(text + "  "), place if place < len(text) else len(text) + 2, text)

    def test_blank_texts(self):
        self.assertEqual([self.place(""), self.place(" "), self.place(" \n \n")], [0, 1, 4])

    def test_other_signs(self):
        for sign in OTHER_SIGNS:
            for before in ("", "people", "people 3 ", "people 3 friends ", "people 3 friends 0", HEAD + "say 1", HEAD + "say a"):
                for behind in ("", " ", "1", "a", "turn 1"):
                    self.assertEqual(self.place(before + sign + behind), len(before), before + sign)

    def test_longer_texts(self):
        text = HEAD + "say 1 "
        check(text + " " * (2000 - len(text)))
        for more in (2001, 2002, 2500):
            self.assertEqual(self.place(text + " " * (more - len(text))), 2000)
        # The length is ahead of all else.
        self.assertEqual(self.place("@" * 2001), 2000)
        self.assertEqual(self.place("@" * 2000), 0)
        self.assertEqual(self.place("people 3 friends 0-0" + " " * 2000), 2000)
        self.assertEqual(self.place(" " * 2000), 2000)
        full = HEAD + "say 1" * 396 + "   "
        self.assertEqual(len(full), 2000)
        self.assertIsNone(check(full))
        self.assertEqual(self.place(full + " "), 2000)

    def test_places_of_altered_programs(self):
        chance = random.Random(5)
        wrong = 0
        for written, _, _ in programs(300, seed=2):
            for _ in range(12):
                text = altered(written, chance)
                place = place_of_error(text)
                if place is not None:
                    wrong += 1
                    self.assertEqual(self.place(text), place, text)
                else:
                    try:
                        check(text)
                    except BadPair:
                        pass
        self.assertGreater(wrong, 1000)

    def test_each_beginning_of_a_program(self):
        text = "people 3 friends 0-1 if 0,-(a mod 2){swap 1,circle(0)}else{when people{let abc=7}}repeat 2{say 1}"
        for end in range(len(text) + 1):
            cut = text[:end]
            place = place_of_error(cut)
            if place is None:
                self.assertIsNone(check(cut))
            else:
                self.assertEqual(self.place(cut), place, cut)


class Limits(Places):
    def test_people(self):
        for n in range(1, 9):
            self.assertEqual(start_of(f"people {n} friends"), (n, ()))
        self.assertEqual([self.place("people 0 friends"), self.place("people 9 friends")], [7, 7])

    def test_names(self):
        for many in range(1, 9):
            self.assertIsNone(check(f"{HEAD}let {'z' * many} = 1 say {'z' * many}"))
        self.assertEqual(self.place(HEAD + "let zzzzzzzzz = 1"), len(HEAD + "let "))

    def test_letters(self):
        for letter in "abcdefghijklmnopqrstuvwxyz":
            for name in (letter, letter + "aa", "a" + letter + "a", "aa" + letter):
                text = f"{HEAD}let {name} = {name}"
                self.assertEqual(printed(text), text)

    def test_numbers(self):
        for number in range(100):
            self.assertIsNone(check(f"{HEAD}say {number}"))
            if number > 0:
                self.assertEqual(self.place(f"{HEAD}say 0{number}"), len(HEAD + "say "))
        self.assertEqual(self.place(HEAD + "say 100"), len(HEAD + "say "))

    def at_most(self, before, pieces, behind):
        """60 pieces may stand there; with one more the last of these cannot."""
        self.assertEqual(len(pieces), 61)
        place = len(before + " ".join(pieces[:60])) + 1
        self.assertEqual(self.place(before + " ".join(pieces) + behind), place)
        self.assertEqual(self.place(before + " ".join(pieces)), place)

    def test_sixty_pieces(self):
        sixty = "-1" + " + 1" * 29
        self.assertEqual(len(sixty.replace("-", "- ").split()), 60)
        minus = "- " * 59 + "1"
        circles = "circle ( " * 19 + "1 + 1 " + ") " * 19
        self.assertEqual([len(minus.split()), len(circles.split())], [60, 60])
        for e in (sixty, minus, circles):
            for text in (f"say {e}", f"turn {e} say 1", f"swap {e}, {e}", f"if {e}, {e} {{ }}", f"repeat {e} {{ }}",
                         f"let a = {e} let b = {e}", f"when {e} {{ say {e} }} else {{ say {e} }}"):
                self.assertIsNone(check(HEAD + text))
        for before in ("say ", "swap 1, ", f"swap {sixty}, ", f"let a = {sixty} let a = "):
            for behind in ("", " say 1", " + 1", " @"):
                self.at_most(HEAD + before, ["-", "1", *["+", "1"] * 29, "+"], behind)
                self.at_most(HEAD + before, ["-"] * 60 + ["1"], behind)
                self.at_most(HEAD + before, ["(", *["-"] * 58, "1", ")"], behind)
                self.at_most(HEAD + before, ["1", *["*", "1"] * 29, "*", "-"], behind)
                self.at_most(HEAD + before, ["("] * 29 + ["-", "-", "1"] + [")"] * 29, behind)

    def test_sixty_pieces_and_an_end_too_early(self):
        for e in ("- " * 60, "1 + " * 30, "( " * 29 + "1 " + "+ 1 " * 15, "circle ( " * 30):
            self.assertEqual(len(e.split()), 60)
            self.assertEqual(self.place(HEAD + "say " + e), len(HEAD + "say " + e))
            self.assertEqual(self.place(HEAD + "say " + e + "}"), len(HEAD + "say " + e))

    def test_thirty_blocks(self):
        for many in (1, 29, 30):
            self.assertIsNone(check(HEAD + "repeat 1{" * many + "}" * many))
            self.assertIsNone(check(HEAD + "when 1{}else{" * many + "}" * many))
            self.assertIsNone(check(HEAD + "repeat 1{" * (many - 1) + "say circle(0)" + "}" * (many - 1)))
        for many in (31, 32, 60):
            place = len(HEAD + "repeat 1{" * 30 + "repeat 1")
            self.assertEqual(self.place(HEAD + "repeat 1{" * many + "}" * many), place)
        self.assertEqual(self.place(HEAD + "repeat 1{" * 31), len(HEAD + "repeat 1{" * 31) - 1)

    def test_thirty_of_both_kinds(self):
        for bracket, blocks in [("(", 1), ("(", 2), ("(", 15), ("(", 29), ("circle(", 15), ("circle(", 29)]:
            before = HEAD + "when 1{" * blocks + "say "
            brackets = 30 - blocks
            self.assertIsNone(check(before + bracket * brackets + "1" + ")" * brackets + "}" * blocks))
            beyond = before + bracket * (brackets + 1)
            self.assertEqual(self.place(beyond), len(beyond) - 1)
            self.assertEqual(self.place(beyond + "1" + ")" * (brackets + 1) + "}" * blocks), len(beyond) - 1)
        within = HEAD + "repeat 1{" * 30 + "turn "
        self.assertEqual(self.place(within + "(1)" + "}" * 30), len(within))
        self.assertEqual(self.place(within + "circle(1)" + "}" * 30), len(within + "circle"))

    def test_closed_brackets_are_around_nothing(self):
        self.assertIsNone(check(HEAD + "repeat 1{}" * 100 + "say (1)" * 50))
        self.assertIsNone(check(HEAD + "repeat 1{" * 29 + "say (1)+(2) say circle(3) when 1{}else{}" + "}" * 29))
        for closed in ("say (1) ", "repeat 1{}", "say circle(1) ", "when 1{}else{}"):
            before = HEAD + closed + "repeat 1{" * 15 + closed + "repeat 1{" * 14 + closed
            self.assertIsNone(check(before + "repeat 1{}" + "}" * 29))
            self.assertEqual(self.place(before + "repeat 1{when 1{"), len(before + "repeat 1{when 1"))
            self.assertEqual(self.place(before + "repeat 1{say ("), len(before + "repeat 1{say "))

    def test_thirty_brackets_print(self):
        deep = HEAD + "repeat 1 { " * 29 + "say circle(0)" + " }" * 29
        self.assertEqual(printed(deep), deep)
        signs = HEAD + "say " + "-" * 59 + "1"
        self.assertEqual(printed(signs), signs)

    def test_deep_texts_of_one_sign(self):
        for sign in "({-":
            for before in ("", HEAD, HEAD + "say ", HEAD + "repeat 1"):
                text = before + sign * (2000 - len(before))
                self.assertEqual(self.place(text), place_of_error(text))


class Pairs(Places):
    def test_not_of_two_unlike_people(self):
        self.assertEqual(self.pair("people 3 friends 0-0"), (0, 0))
        self.assertEqual(self.pair("people 3 friends 0-3"), (0, 3))
        self.assertEqual(self.pair("people 3 friends 3-0"), (3, 0))
        self.assertEqual(self.pair("people 3 friends 99-98 say 1"), (99, 98))
        self.assertEqual(self.pair("people 1 friends 0-0"), (0, 0))
        self.assertEqual(self.pair("people 1 friends 0-1"), (0, 1))
        self.assertEqual(self.pair("people 8 friends 0-8"), (0, 8))
        self.assertIsNone(check("people 8 friends 0-7"))

    def test_told_before(self):
        self.assertEqual(self.pair("people 3 friends 0-1 0-1"), (0, 1))
        self.assertEqual(self.pair("people 3 friends 0-1 1-0"), (1, 0))
        self.assertEqual(self.pair("people 3 friends 1-0 1-2 0-1"), (0, 1))
        self.assertEqual(self.pair("people 3 friends 0-1 1-2 2-0 2-1"), (2, 1))

    def test_first_of_the_text(self):
        self.assertEqual(self.pair("people 3 friends 0-1 2-2 1-0 5-6"), (2, 2))
        self.assertEqual(self.pair("people 3 friends 0-1 1-0 2-2 5-6"), (1, 0))
        self.assertEqual(self.pair("people 3 friends 5-6 0-1 1-0 2-2"), (5, 6))

    def test_behind_the_form(self):
        self.assertEqual(self.place("people 3 friends 0-0 turn"), len("people 3 friends 0-0 turn"))
        self.assertEqual(self.place("people 3 friends 0-0 1-1-1"), len("people 3 friends 0-0 1-1"))
        self.assertEqual(self.place("people 3 friends 0-1 0-1 @"), len("people 3 friends 0-1 0-1 "))
        self.assertEqual(self.pair("people 3 friends 0-1 0-1 say a say 1 mod 0"), (0, 1))

    def test_fields_are_integers(self):
        with self.assertRaises(BadPair) as caught:
            check("people 3 friends 10-1")
        self.assertEqual([type(caught.exception.x), type(caught.exception.y)], [int, int])


class DeepValues(unittest.TestCase):
    def test_nested_values_are_no_texts(self):
        for kind in (tuple, list, dict):
            for deep in range(31):
                with self.assertRaises(NotText):
                    check(nested(kind, deep))
