"""Promises [5] and [6]: printed and start_of."""

import unittest

from tests.making import programs
from turnfriends.halls import is_hall
from turnfriends.printing import check, printed, start_of

HEAD = "people 3 friends "


class Printed(unittest.TestCase):
    def prints(self, written, form):
        self.assertEqual(printed(written), form)
        self.assertEqual(printed(form), form)

    def e(self, written, form):
        """An E in each statement's places."""
        self.prints(f"{HEAD}say {written}", f"{HEAD}say {form}")
        self.prints(f"{HEAD}swap {written},{written}", f"{HEAD}swap {form}, {form}")
        self.prints(f"{HEAD}let a={written}", f"{HEAD}let a = {form}")
        self.prints(f"{HEAD}repeat {written}{{}}", f"{HEAD}repeat {form} {{ }}")

    def test_headings(self):
        self.prints("people 1 friends", "people 1 friends")
        self.prints("people8friends", "people 8 friends")
        self.prints("\n people\n8\n\nfriends \n", "people 8 friends")
        self.prints("people 2 friends turn 0", "people 2 friends turn 0")

    def test_pairs(self):
        self.prints("people 3 friends 1-0", "people 3 friends 0-1")
        self.prints("people 3 friends 2 - 1 0\n-\n2 1-0", "people 3 friends 0-1 0-2 1-2")
        self.prints("people3friends0-1 2-1turn 1", "people 3 friends 0-1 1-2 turn 1")
        self.prints("people 8 friends 7-6 5-7 0-7 6-0", "people 8 friends 0-6 0-7 5-7 6-7")

    def test_statements(self):
        self.prints(HEAD + "turn(1)", HEAD + "turn 1")
        self.prints(HEAD + "turn1", HEAD + "turn 1")
        self.prints(HEAD + "swap 0 ,1", HEAD + "swap 0, 1")
        self.prints(HEAD + "say\na", HEAD + "say a")
        self.prints(HEAD + "let a=7 mod 4", HEAD + "let a = 7 mod 4")
        self.prints(HEAD + "repeat a{turn a}", HEAD + "repeat a { turn a }")
        self.prints(HEAD + "turn 1 turn 2say 3", HEAD + "turn 1 turn 2 say 3")

    def test_blocks(self):
        self.prints(HEAD + "if 0,1{}", HEAD + "if 0, 1 { }")
        self.prints(HEAD + "when 1{say 1 say 2}", HEAD + "when 1 { say 1 say 2 }")
        self.prints(HEAD + "when 1{repeat 2{when 3{}}}", HEAD + "when 1 { repeat 2 { when 3 { } } }")
        self.prints(HEAD + "repeat(2){}say 1", HEAD + "repeat 2 { } say 1")

    def test_else(self):
        self.prints(HEAD + "if 0,1{}else{}", HEAD + "if 0, 1 { }")
        self.prints(HEAD + "when 0{}else{ \n }say 1", HEAD + "when 0 { } say 1")
        self.prints(HEAD + "if 0,1{say 1}else{say 2}", HEAD + "if 0, 1 { say 1 } else { say 2 }")
        self.prints(HEAD + "when 1{}else{say 2}", HEAD + "when 1 { } else { say 2 }")
        inner = "when 1 { }"
        self.prints(HEAD + "if 0,1{}else{when 1{}else{}}", HEAD + "if 0, 1 { } else { " + inner + " }")
        self.prints(HEAD + "when 1{when 1{}else{}}else{}", HEAD + "when 1 { " + inner + " }")

    def test_brackets_that_need_not_stand(self):
        self.e("(1)", "1")
        self.e("((a))", "a")
        self.e("(people)", "people")
        self.e("(1+2)", "1 + 2")
        self.e("(1+2)+3", "1 + 2 + 3")
        self.e("(1-2)+3", "1 - 2 + 3")
        self.e("1+(2*3)", "1 + 2 * 3")
        self.e("(1*2)-(3 mod 4)", "1 * 2 - 3 mod 4")
        self.e("(1*2)mod 3", "1 * 2 mod 3")
        self.e("(1 mod 2)*3", "1 mod 2 * 3")
        self.e("circle((1))", "circle(1)")
        self.e("(circle((1+2)))*3", "circle(1 + 2) * 3")

    def test_brackets_that_must_stand(self):
        self.e("1+(2+3)", "1 + (2 + 3)")
        self.e("1-(2-3)", "1 - (2 - 3)")
        self.e("1-(2+3)", "1 - (2 + 3)")
        self.e("1*(2*3)", "1 * (2 * 3)")
        self.e("1*(2 mod 3)", "1 * (2 mod 3)")
        self.e("1 mod(2*3)", "1 mod (2 * 3)")
        self.e("1 mod(2 mod 3)", "1 mod (2 mod 3)")
        self.e("(1+2)*3", "(1 + 2) * 3")
        self.e("1*(2-3)", "1 * (2 - 3)")
        self.e("((1+2)*(3))*((4-5))", "(1 + 2) * 3 * (4 - 5)")

    def test_minus_ahead_of_one_thing(self):
        self.e("- 1", "-1")
        self.e("- -1", "--1")
        self.e("-(-(-a))", "---a")
        self.e("-(1)", "-1")
        self.e("-( 1+2 )", "-(1 + 2)")
        self.e("-(1*2)", "-(1 * 2)")
        self.e("(-1)*2", "-1 * 2")
        self.e("- 1*2", "-1 * 2")
        self.e("1*(-2)", "1 * -2")
        self.e("1 mod- 2", "1 mod -2")
        self.e("1-(-2)", "1 - -2")
        self.e("1--2", "1 - -2")
        self.e("1- - -2", "1 - --2")
        self.e("1+(-2)+3", "1 + -2 + 3")
        self.e("- circle ( 1 )", "-circle(1)")
        self.e("-people-(-people)", "-people - -people")

    def test_names_and_numbers(self):
        for name in ("a", "z", "abcdefgh", "zzzzzzzz", "turns", "peopl", "el"):
            self.e(name, name)
        for number in range(100):
            self.e(str(number), str(number))

    def test_programs_written_loosely(self):
        for written, form, hall in programs(400):
            self.prints(written, form)
            self.assertEqual(start_of(written), hall)
            self.assertIsNone(check(written))


class Starts(unittest.TestCase):
    def test_halls(self):
        self.assertEqual(start_of("people 1 friends"), (1, ()))
        self.assertEqual(start_of("people 8 friends say 1"), (8, ()))
        self.assertEqual(start_of("people 4 friends 3-2 1-0 0-2 turn 1 turn 2"), (4, ((0, 1), (0, 2), (2, 3))))
        self.assertIs(is_hall(start_of("people 4 friends 3-2 1-0 0-2")), True)

    def test_everybody(self):
        pairs = [(y, x) for x in range(8) for y in range(x + 1, 8)]
        text = "people 8 friends " + " ".join(f"{x}-{y}" for x, y in reversed(pairs))
        self.assertEqual(start_of(text), (8, tuple((y, x) for x, y in pairs)))
