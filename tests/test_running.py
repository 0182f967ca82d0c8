"""Promise [7]: programs of turns, run."""

import collections
import copy
import unittest

from tests.hands import WRONG, nested
from tests.machine import Machine, runs
from turnfriends.errors import (
    BadPair, BadRest, HallError, InvalidText, NoPerson, NotFriends, NotText, TooGreat, TooMuch, Unset,
)
from turnfriends.running import run

HEAD = "people 3 friends 0-1 1-2 "
PATH = (3, ((0, 1), (1, 2)))


class Running(unittest.TestCase):
    def says(self, statements, *numbers):
        self.assertEqual(run(HEAD + statements)[2], numbers)

    def turns(self, statements, *people):
        self.assertEqual(run(HEAD + statements)[1], people)

    def fails(self, error, statements, **fields):
        with self.assertRaises(HallError) as caught:
            run(HEAD + statements)
        self.assertIs(type(caught.exception), error)
        self.assertEqual(vars(caught.exception), fields)


class Statements(Running):
    def test_nothing(self):
        self.assertEqual(run("people 1 friends"), ((1, ()), (), ()))
        self.assertEqual(run("people 8 friends 7-0 1-0"), ((8, ((0, 1), (0, 7))), (), ()))

    def test_turn(self):
        self.assertEqual(run(HEAD + "turn 1"), ((3, ((0, 1), (0, 2), (1, 2))), (1,), ()))
        self.assertEqual(run(HEAD + "turn 1 turn 0"), ((3, ((0, 1), (0, 2))), (1, 0), ()))
        self.assertEqual(run("people 1 friends turn 0"), ((1, ()), (0,), ()))

    def test_swap(self):
        self.assertEqual(run(HEAD + "swap 0, 1"), ((3, ((0, 1), (0, 2))), (0, 1, 0), ()))
        self.assertEqual(run(HEAD + "swap 1, 0"), ((3, ((0, 1), (0, 2))), (1, 0, 1), ()))

    def test_say(self):
        self.says("say 0 say 99 say -7 say people", 0, 99, -7, 3)

    def test_let(self):
        self.says("let a = 5 say a let a = a + 1 say a let b = a * a say b - a", 5, 6, 30)

    def test_if(self):
        self.says("if 0, 1 { say 1 } else { say 2 } if 1, 0 { say 3 } else { say 4 }", 1, 3)
        self.says("if 0, 2 { say 1 } else { say 2 } if 2, 0 { say 3 } if 1, 1 { say 5 } else { say 6 }", 2, 6)
        self.says("if 0, 1 { } else { say 2 } if 0, 2 { say 1 } else { }")

    def test_when(self):
        self.says("when 1 { say 1 } else { say 2 } when 0 { say 3 } else { say 4 } when 0 { say 5 }", 1, 4)
        self.says("when -1 { say 1 } when 2 - 2 { say 2 } when 99 { say 3 }", 1, 3)

    def test_repeat(self):
        self.says("repeat 3 { say 1 say 2 }", 1, 2, 1, 2, 1, 2)
        self.says("repeat 1 { say 1 } repeat 0 { say 2 } repeat -1 { say 3 } repeat -99 { say 4 }", 1)
        self.says("repeat 2 { repeat 2 { say 1 } say 2 }", 1, 1, 2, 1, 1, 2)

    def test_repeat_reckons_once(self):
        self.says("let a = 3 repeat a { let a = a - 2 say a }", 1, -1, -3)
        self.says("repeat circle(0) { turn 1 say circle(0) turn 1 turn 1 }", 2)

    def test_repeat_of_nothing(self):
        much = "let a = 99 * 99 * 99 repeat a { } repeat a { repeat a { } } say 1"
        self.fails(TooMuch, much, most=2000)
        self.says("let a = 99 * 99 * 99 repeat a { } repeat 99 { repeat a { } } say 1", 1)

    def test_names_set_in_blocks(self):
        self.says("when 1 { let a = 1 } say a", 1)
        self.says("if 0, 2 { let a = 1 } else { let a = 2 } say a", 2)
        self.says("repeat 3 { let a = 4 } say a", 4)
        self.says("let a = 1 repeat 3 { let a = a * 2 } say a", 8)
        self.fails(Unset, "when 0 { let a = 1 } say a", name="a")
        self.fails(Unset, "repeat 0 { let a = 1 } say a", name="a")

    def test_the_hall_as_it_is_then(self):
        self.says("say circle(0) turn 1 say circle(0) turn 0 say circle(0) say circle(1)", 1, 2, 2, 1)
        self.says("if 0, 2 { say 1 } turn 1 if 0, 2 { say 2 } turn 1 if 0, 2 { say 3 } else { say 4 }", 2, 4)
        self.turns("turn 1 turn circle(0) swap 2, circle(1)", 1, 2, 2, 1, 2)
        self.fails(NotFriends, "swap 0, 2")
        self.turns("turn 1 swap 0, 2", 1, 0, 2, 0)
        self.fails(NotFriends, "swap 0, 1 swap 1, 2")


class Reckoning(Running):
    def test_each_kind(self):
        self.says("say 7 say 2 + 3 say 2 - 3 say 2 * 3 say 7 mod 3 say -7 say (7) say people", 7, 5, -1, 6, 1, -7, 7, 3)
        self.says("say circle(0) say circle(1) say circle(people - 1)", 1, 2, 1)

    def test_from_the_left(self):
        self.says("say 9 - 3 - 2 say 9 - (3 - 2) say 20 mod 12 * 2 say 20 mod (5 * 2)", 4, 8, 16, 0)
        self.says("say 2 * 7 mod 4 say 2 * (7 mod 4) say 17 mod 10 mod 4", 2, 6, 3)

    def test_binding(self):
        self.says("say 1 + 2 * 3 say (1 + 2) * 3 say 1 - 7 mod 4 say 2 * 3 + 4 * 5", 7, 9, -2, 26)
        self.says("say -2 + 3 say -(2 + 3) say -2 * 3 say 2 * -3 say 1 - -1 say - - -4 say -circle(1)", 1, -5, -6, -6, 2, -4, -2)

    def test_rests(self):
        self.says("say 0 mod 4 say 3 mod 4 say 4 mod 4 say 5 mod 1", 0, 3, 0, 0)
        self.says("say -1 mod 4 say -4 mod 4 say -5 mod 4 say (0 - 7) mod 3 say -(7 mod 3)", 3, 0, 3, 2, -1)
        self.says("say -99 mod 99 say -99 mod 98 say -1 mod 1", 0, 97, 0)

    def test_rests_by_less_than_one(self):
        for less in ("0", "-1", "-99", "(1 - 1)", "-circle(1)"):
            self.fails(BadRest, f"say 5 mod {less}")
            self.fails(BadRest, f"say 0 mod {less}")

    def test_great_numbers(self):
        million = "let m = 10 * 10 * 10 * 10 * 10 * 10 "
        self.says(million + "say m say -m say m - 1 + 1 say m * 1 say m - m - m", 10 ** 6, -10 ** 6, 10 ** 6, 10 ** 6, -10 ** 6)
        self.says(million + "say m * -1 say 0 - m say m mod m", -10 ** 6, -10 ** 6, 0)
        for great in ("m + 1", "0 - m - 1", "-m - 1", "m * 2", "m * -2", "m * m", "-m * m", "1 + m", "m - -1"):
            self.fails(TooGreat, million + f"say {great}")

    def test_parts_of_an_e(self):
        million = "let m = 10 * 10 * 10 * 10 * 10 * 10 "
        self.fails(TooGreat, million + "say m + 1 - 1")
        self.fails(TooGreat, million + "say (m + 1) * 0")
        self.fails(TooGreat, million + "say 0 * (m + 1)")
        self.fails(TooGreat, million + "say (m + 1) mod 2")
        self.fails(TooGreat, million + "say 7 mod (m + 1)")
        self.fails(TooGreat, million + "turn m + 1")
        self.fails(TooGreat, million + "turn circle(m + 1)")
        self.fails(TooGreat, million + "let a = m + 1")
        self.fails(TooGreat, million + "repeat m + 1 { }")
        self.fails(TooGreat, million + "when m + 1 { }")
        self.fails(TooGreat, "say 99 * 99 * 99 * 2")
        self.says(million + "say m - 1 + 1 say -m + 1 - 1", 10 ** 6, -10 ** 6)


class Errors(Running):
    def test_unset(self):
        self.fails(Unset, "say a", name="a")
        self.fails(Unset, "let a = a", name="a")
        self.fails(Unset, "let a = 1 say abcdefgh", name="abcdefgh")
        self.fails(Unset, "say b + a", name="b")

    def test_no_person(self):
        for told in ("3", "99", "-1", "people", "0 - 1", "99 * 99 * 99"):
            self.fails(NoPerson, f"turn {told}")
            self.fails(NoPerson, f"swap {told}, 0")
            self.fails(NoPerson, f"swap 0, {told}")
            self.fails(NoPerson, f"if {told}, 0 {{ }}")
            self.fails(NoPerson, f"if 0, {told} {{ }} else {{ }}")
            self.fails(NoPerson, f"say circle({told})")
        self.fails(NoPerson, "turn circle(3)")

    def test_not_friends(self):
        self.fails(NotFriends, "swap 0, 2")
        self.fails(NotFriends, "swap 1, 1")
        with self.assertRaises(NotFriends):
            run("people 1 friends swap 0, 0")

    def test_e_s_ahead_of_persons(self):
        self.fails(Unset, "swap 3, a", name="a")
        self.fails(Unset, "if 3, a { }", name="a")
        self.fails(BadRest, "swap 3, 1 mod 0")
        self.fails(TooGreat, "if -1, 99 * 99 * 99 * 99 { }")
        self.fails(NoPerson, "swap 0, circle(3)")
        self.fails(NoPerson, "swap 3, 3")
        self.fails(NoPerson, "swap 0, 3")

    def test_from_left_to_right(self):
        self.fails(Unset, "say a + 1 mod 0", name="a")
        self.fails(BadRest, "say 1 mod 0 + a")
        self.fails(NoPerson, "say circle(3) + a")
        self.fails(Unset, "say a + circle(3)", name="a")
        self.fails(TooGreat, "say 99 * 99 * 99 * 99 + a")
        self.fails(Unset, "say a + 99 * 99 * 99 * 99", name="a")
        self.fails(Unset, "say 1 mod a mod 0", name="a")
        self.fails(BadRest, "say 1 mod 0 mod a")
        self.fails(Unset, "say 99 * 99 * 99 * a * 99", name="a")
        self.fails(TooGreat, "say 99 * 99 * 99 * 99 mod 0")
        self.fails(BadRest, "say circle(1 mod 0)")
        self.fails(Unset, "swap a, b", name="a")
        self.fails(Unset, "swap 0, b", name="b")
        self.fails(Unset, "say (99 * 99 * 99) * (99 + b)", name="b")

    def test_in_the_order_of_the_run(self):
        self.fails(NoPerson, "turn 3 say a")
        self.fails(Unset, "say a turn 3", name="a")
        self.fails(NotFriends, "when 1 { swap 0, 2 } say a")
        self.fails(Unset, "when 0 { swap 0, 2 } say a", name="a")
        self.says("when 0 { turn 3 } if 0, 2 { say a } else { say 1 } repeat 0 { say 1 mod 0 }", 1)
        self.fails(BadRest, "let a = 2 repeat 3 { say 5 mod a let a = a - 1 }")

    def test_no_programs(self):
        for text, place in (("", 0), ("people 3", 8), (HEAD + "turn", 29), (HEAD + "turn 3 }", 32), ("a" * 2001, 2000)):
            with self.assertRaises(InvalidText) as caught:
                run(text)
            self.assertEqual(caught.exception.place, place)
        with self.assertRaises(BadPair) as caught:
            run("people 3 friends 0-1 1-3 turn 3 say a")
        self.assertEqual((caught.exception.x, caught.exception.y), (1, 3))
        self.fails(InvalidText, "turn 3 say a say", place=41)

    def test_no_texts(self):
        for value in [value for value in WRONG if not isinstance(value, str)] + [nested(tuple, 30), 0, (), [], {}]:
            before = copy.deepcopy(value)
            with self.assertRaises(NotText):
                run(value)
            self.assertEqual(value, before)


class Bounds(Running):
    def test_two_thousand_statements(self):
        # The first repeat and 49 times a repeat with 39 others in it, then a repeat with 38: 2000.
        begun = "repeat 49 { repeat 39 { say 1 } } repeat 38 { say 1 } "
        self.assertEqual(len(run(HEAD + begun)[2]), 49 * 39 + 38)
        self.fails(TooMuch, begun + "say 1", most=2000)
        self.fails(TooMuch, begun + "when 0 { }", most=2000)

    def test_begins_ahead_of_its_e_s(self):
        begun = "repeat 49 { repeat 39 { say 1 } } repeat 37 { say 1 } "
        self.fails(Unset, begun + "say a", name="a")
        self.fails(TooMuch, begun + "say 1 say a", most=2000)
        self.fails(TooMuch, begun + "say 1 turn 3", most=2000)

    def test_blocks_not_done_begin_nothing(self):
        begun = "repeat 49 { repeat 39 { say 1 } } repeat 36 { say 1 } "
        self.says(begun + "when 0 { say 2 say 3 } repeat 0 { say 4 }", *[1] * (49 * 39 + 36))
        self.fails(TooMuch, begun + "when 1 { say 2 say 3 }", most=2000)

    def test_two_hundred_turns(self):
        self.assertEqual(run(HEAD + "repeat 99 { turn 1 turn 1 } turn 0 turn 0")[1], (1,) * 198 + (0, 0))
        self.fails(TooMuch, "repeat 99 { turn 1 turn 1 } turn 0 turn 0 turn 2", most=200)
        self.fails(TooMuch, "repeat 99 { turn 1 turn 1 turn 1 }", most=200)

    def test_swaps_that_pass_two_hundred(self):
        # 66 swaps are 198 turns: two more fit in, a swap doesn't.
        swaps = "repeat 33 { swap 0, 1 swap 0, 1 } "
        self.assertEqual(len(run(HEAD + swaps)[1]), 198)
        self.assertEqual(len(run(HEAD + swaps + "turn 0 turn 0")[1]), 200)
        self.fails(TooMuch, swaps + "swap 0, 1", most=200)
        self.fails(TooMuch, swaps + "turn 0 turn 0 swap 0, 1", most=200)
        self.assertEqual(len(run("people 2 friends 0-1 repeat 65 { swap 0, 1 } turn 0 turn 0 swap 0, 1")[1]), 200)
        with self.assertRaises(TooMuch):
            run("people 2 friends 0-1 repeat 66 { swap 0, 1 } swap 0, 1")

    def test_wrong_persons_ahead_of_too_many_turns(self):
        turns = "repeat 99 { turn 1 turn 1 } turn 1 turn 1 "
        self.fails(NoPerson, turns + "turn 3")
        self.fails(NotFriends, turns + "swap 0, 2")
        self.fails(TooMuch, turns + "turn 0 turn 3", most=200)
        self.assertEqual(run(HEAD + turns + "say 1")[2], (1,))

    def test_deepest(self):
        deep = "when 1 { " * 30 + "say " + "-" * 59 + "1 " + "} " * 30
        self.says(deep, -1)
        self.says("say " + "(" * 29 + "1" + ")" * 29, 1)


class ByTheOtherRoad(unittest.TestCase):
    def test_programs(self):
        met = collections.Counter()
        for text, hall, pieces in runs(2500):
            try:
                told = run(text)
            except HallError as error:
                told = type(error).__name__, vars(error)
                met[told[0]] += 1
            self.assertEqual(told, Machine(hall, pieces).outcome(), text)
        for name in ("Unset", "NoPerson", "NotFriends", "BadRest", "TooGreat", "TooMuch"):
            self.assertGreater(met[name], 4, name)
        self.assertLess(sum(met.values()), 1250)

    def test_answers_are_tuples(self):
        told = run(HEAD + "turn 1 say 2")
        for value in (told, *told, told[0][1], told[0][1][0]):
            self.assertIs(type(value), tuple)
        self.assertEqual(run(HEAD + "turn 1 say 2"), told)
