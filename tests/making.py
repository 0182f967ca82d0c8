"""Programs for tests: made by chance (the same ones at each run), written loosely and in the one form."""

import ast
import random
import re

NAMES = ["a", "b", "zz", "abcdefgh", "peoples", "turns", "modd", "circles", "iff"]
LOOSE = [" ", "  ", "\n", " \n "]
PIECE = re.compile(r"[a-z]+|[0-9]+|[^ \n]")


def meaning(pieces):
    """The tree of an E, as Python reads it: signs, minuses and brackets bind there just as in a program."""
    written = " ".join("%" if piece == "mod" else piece for piece in pieces)
    return ast.dump(ast.parse(written, mode="eval"))


def matching(pieces, at):
    """The place of the bracket that closes the one at a place."""
    inside = 0
    for k in range(at, len(pieces)):
        inside += (pieces[k] == "(") - (pieces[k] == ")")
        if inside == 0:
            return k
    raise AssertionError("no such bracket")


def bared(pieces):
    """An E without all the brackets that need not stand: without them Python reads the same tree."""
    told = meaning(pieces)
    at = 0
    while at < len(pieces):
        if pieces[at] == "(" and (at == 0 or pieces[at - 1] != "circle"):
            end = matching(pieces, at)
            fewer = pieces[:at] + pieces[at + 1:end] + pieces[end + 1:]
            if meaning(fewer) == told:
                pieces, at = fewer, -1
        at += 1
    return pieces


def strictly(pieces):
    """The pieces of an E or a statement with the blanks of the one form."""
    text = ""
    for k, piece in enumerate(pieces):
        before = pieces[k - 1] if k else ""
        # A minus stands ahead of one thing if nothing that could end an E stands before it.
        things = ("", "(", ",", "=", "+", "-", "*", "mod", "turn", "swap", "if", "when", "repeat", "say")
        alone = before == "-" and (k == 1 or pieces[k - 2] in things)
        bound = before in ("", "(") or piece in (")", ",") or before == "circle" or alone
        text += piece if bound else " " + piece
    return text


class Maker:
    def __init__(self, seed):
        self.chance = random.Random(seed)

    def e(self, deep):
        """The pieces of an E, with brackets that need and need not stand."""
        kind = self.chance.choice(["number", "name", "people", "circle", "bracket", "bracket", "minus", "two", "two", "two"])
        if deep == 0 or kind == "number":
            return [str(self.chance.choice([0, 1, 2, 9, 10, 99]))]
        if kind == "name":
            return [self.chance.choice(NAMES)]
        if kind == "people":
            return ["people"]
        if kind == "circle":
            return ["circle", "(", *self.e(deep - 1), ")"]
        if kind == "bracket":
            return ["(", *self.e(deep - 1), ")"]
        if kind == "minus":
            inner = self.e(deep - 1)
            # Ahead of two that are bound loosely the minus is that of the first one alone: so is it in Python.
            return ["-", *inner]
        return [*self.e(deep - 1), self.chance.choice(["+", "-", "*", "mod"]), *self.e(deep - 1)]

    def short_e(self):
        while True:
            pieces = self.e(self.chance.randrange(5))
            if len(pieces) <= 60:
                return pieces

    def statement(self, deep):
        """The pieces of a statement as they are written, and in the one form."""
        kind = self.chance.choice(["turn", "say", "swap", "let", "if", "when", "repeat"])
        if deep == 0 and kind in ("if", "when", "repeat"):
            kind = "turn"
        one, other = self.short_e(), self.short_e()
        loose, strict = [kind, *one], [kind, *bared(one)]
        if kind == "let":
            name = self.chance.choice(NAMES)
            return ["let", name, "=", *one], ["let", name, "=", *bared(one)]
        if kind in ("swap", "if"):
            loose, strict = [*loose, ",", *other], [*strict, ",", *bared(other)]
        if kind in ("if", "when", "repeat"):
            block, form = self.block(deep - 1)
            loose, strict = loose + block, strict + form
        if kind in ("if", "when"):
            how = self.chance.choice(["no", "empty", "else"])
            block, form = self.block(deep - 1)
            if how == "empty":
                block, form = ["{", "}"], ["{", "}"]
            if how != "no":
                loose = [*loose, "else", *block]
            if how != "no" and len(form) > 2:
                strict = [*strict, "else", *form]
        return loose, strict

    def block(self, deep):
        loose, strict = self.statements(deep, self.chance.randrange(3))
        return ["{", *loose, "}"], ["{", *strict, "}"]

    def statements(self, deep, many):
        loose, strict = [], []
        for _ in range(many):
            one, other = self.statement(deep)
            loose, strict = loose + one, strict + other
        return loose, strict

    def pieces(self):
        """The number of people, the pairs as they are told, and the statements both ways."""
        n = self.chance.randrange(1, 9)
        pairs = [(x, y) for x in range(n) for y in range(n) if x < y and self.chance.random() < 0.4]
        self.chance.shuffle(pairs)
        pairs = [self.chance.choice([(x, y), (y, x)]) for x, y in pairs]
        loose, strict = self.statements(2, self.chance.randrange(4))
        return n, pairs, loose, strict

    def program(self):
        """A text written loosely, its one form, and its hall."""
        n, pairs, loose, strict = self.pieces()
        heading = ["people", str(n), "friends"]
        told = sorted((min(pair), max(pair)) for pair in pairs)
        form = " ".join([*heading, *[f"{x}-{y}" for x, y in told], *([strictly(strict)] if strict else [])])
        for x, y in pairs:
            heading += [str(x), "-", str(y)]
        return self.loosely(heading + loose), form, (n, tuple(told))

    def loosely(self, pieces):
        """The text of some pieces, with blanks where they must stand and where they may."""
        text = self.chance.choice(["", *LOOSE])
        for k, piece in enumerate(pieces):
            must = k > 0 and (pieces[k - 1] + piece).isalpha() or k > 0 and (pieces[k - 1] + piece).isdigit()
            text += self.chance.choice(LOOSE if must else ["", "", *LOOSE]) + piece if k else piece
        return text + self.chance.choice(["", *LOOSE])


def programs(many, seed=1):
    """So many programs of at most 2000 signs, as triples of Maker.program."""
    maker = Maker(seed)
    found = []
    while len(found) < many:
        made = maker.program()
        if len(made[0]) <= 2000:
            found.append(made)
    return found


def altered(text, chance):
    """The text with one piece or sign left out, doubled or put in, or cut off."""
    spots = [found.span() for found in PIECE.finditer(text)]
    begin, end = chance.choice(spots)
    other = text[slice(*chance.choice(spots))]
    new = chance.choice([
        "people", "friends", "turn", "swap", "if", "when", "else", "repeat", "let", "say", "circle", "mod", "a", "abcdefghi",
        "0", "8", "99", "100", "00", "07", "{", "}", "(", ")", ",", "=", "-", "+", "*", "/", "A", "\t", ";", "_", "\r", "&",
    ])
    return chance.choice([
        text[:begin], text[:end], text[:begin] + text[end:], text[:begin] + new + text[end:],
        text[:begin] + new + " " + text[begin:], text[:begin] + other + text[end:], text[:end] + " " + other + text[end:],
        text[:begin] + " " + new + " " + text[begin:],
    ])
