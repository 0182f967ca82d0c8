"""Another road to what programs do: run straight from their pieces, E's by Python's own reckoning."""

from tests import roads
from tests.making import Maker

ENDS = {",", "{", "}", "turn", "swap", "if", "when", "repeat", "let", "say"}
SIGNS = {"mod": "%", "people": "Number(people)", "circle": "circle"}


class Failed(Exception):
    """A run's error: the name of its class and its fields."""


class Number:
    """A number that no part of an E may exceed; Python goes over an E's parts from the left, too."""

    def __init__(self, worth):
        if not -10 ** 6 <= worth <= 10 ** 6:
            raise Failed("TooGreat", {})
        self.worth = worth

    def __neg__(self):
        return Number(-self.worth)

    def __add__(self, other):
        return Number(self.worth + other.worth)

    def __sub__(self, other):
        return Number(self.worth - other.worth)

    def __mul__(self, other):
        return Number(self.worth * other.worth)

    def __mod__(self, other):
        if other.worth < 1:
            raise Failed("BadRest", {})
        rest = abs(self.worth) % other.worth
        return Number(other.worth - rest if self.worth < 0 and rest else rest)


class Machine:
    def __init__(self, hall, pieces):
        self.hall, self.pieces = hall, pieces
        self.row, self.said, self.names, self.begun = [], [], {}, 0

    def person(self, number):
        if number.worth not in range(self.hall[0]):
            raise Failed("NoPerson", {})
        return number.worth

    def circle(self, number):
        return Number(len(roads.friends(self.hall, self.person(number))))

    def named(self, name):
        if name not in self.names:
            raise Failed("Unset", {"name": name})
        return self.names[name]

    def written(self, piece):
        if piece.isdigit():
            return f"Number({piece})"
        return SIGNS.get(piece, f"named('{piece}')" if piece.isalpha() else piece)

    def e(self, at):
        """The number that the E from a place on tells, and the place behind it."""
        end = at
        while end < len(self.pieces) and self.pieces[end] not in ENDS:
            end += 1
        text = " ".join(self.written(piece) for piece in self.pieces[at:end])
        known = {"Number": Number, "people": self.hall[0], "circle": self.circle, "named": self.named}
        return eval(text, known), end

    def block_end(self, at):
        """The place of the bracket that closes the block at a place."""
        inside = 0
        for k in range(at, len(self.pieces)):
            inside += (self.pieces[k] == "{") - (self.pieces[k] == "}")
            if inside == 0:
                return k
        raise AssertionError("no such bracket")

    def turns(self, people):
        for x in people:
            self.hall = roads.turned(self.hall, x)
        self.row += people
        if len(self.row) > 200:
            raise Failed("TooMuch", {"most": 200})

    def all(self, at, end):
        while at < end:
            at = self.statement(at)

    def statement(self, at):
        """Does the statement at a place; the place behind it."""
        self.begun += 1
        if self.begun == 2001:
            raise Failed("TooMuch", {"most": 2000})
        key = self.pieces[at]
        if key == "let":
            number, end = self.e(at + 3)
            self.names[self.pieces[at + 1]] = number
            return end
        number, end = self.e(at + 1)
        if key in ("swap", "if"):
            other, end = self.e(end + 1)
            x, y = self.person(number), self.person(other)
            if key == "if":
                return self.either(roads.are_friends(self.hall, x, y), end)
            if not roads.are_friends(self.hall, x, y):
                raise Failed("NotFriends", {})
            self.turns([x, y, x])
        elif key == "turn":
            self.turns([self.person(number)])
        elif key == "say":
            self.said.append(number.worth)
        elif key == "when":
            return self.either(number.worth != 0, end)
        else:
            behind = self.block_end(end)
            for _ in range(number.worth if behind > end + 1 else 0):
                self.all(end + 1, behind)
            return behind + 1
        return end

    def either(self, holds, at):
        """Does the block at a place, or else that of the else behind it; the place behind both."""
        end = self.block_end(at)
        if holds:
            self.all(at + 1, end)
        if self.pieces[end + 1:end + 2] != ["else"]:
            return end + 1
        behind = self.block_end(end + 2)
        if not holds:
            self.all(end + 3, behind)
        return behind + 1

    def outcome(self):
        """What the run tells, or its error's name and fields."""
        try:
            self.all(0, len(self.pieces))
        except Failed as failed:
            return failed.args
        return self.hall, tuple(self.row), tuple(self.said)


class RunMaker(Maker):
    """Programs that go on for a while: persons are mostly persons, names mostly set."""

    def __init__(self, seed):
        super().__init__(seed)
        self.people = 8
        self.slip = 0.01

    def e(self, deep):
        if self.chance.random() < self.slip:
            return super().e(deep)
        person = str(self.chance.randrange(self.people))
        kind = self.chance.choice(["person", "person", "circle", "rest", "name", "minus", "product", "less"])
        if deep == 0 or kind == "person":
            return [person]
        inner = ["(", *self.e(deep - 1), ")"]
        return {
            "circle": ["circle", "(", person, ")"],
            "rest": [*inner, "mod", "people"],
            "name": ["(", self.chance.choice("ab"), "mod", "people", ")"],
            "minus": ["(", "-", *inner, "mod", "people", ")"],
            "product": [self.chance.choice(["1", "0", person, "99"]), "*", *inner, "mod", "people"],
            "less": ["(", *inner, "-", person, "+", person, ")", "mod", "people"],
        }[kind]

    def statement(self, deep):
        loose, strict = super().statement(deep)
        if loose[0] == "swap" and self.chance.random() < 0.8:
            loose = ["if", *loose[1:], "{", *loose, "}"]
        if loose[0] == "repeat" and self.chance.random() < 0.2:
            loose = ["repeat", *self.chance.choice([["99"], ["-", "1"]]), *loose[loose.index("{"):]]
        if loose[0] == "let" and self.chance.random() < 0.2:
            loose = ["let", self.chance.choice("ab"), "=", "a", "*", "99", self.chance.choice("+-"), "b", "*", "9"]
        return loose, strict

    def running(self):
        """The text of a program, its hall and the pieces of its statements."""
        self.people = self.chance.randrange(1, 9)
        self.slip = self.chance.choice([0, 0, 0.01, 0.05])
        pairs = [(x, y) for x in range(self.people) for y in range(x) if self.chance.random() < 0.5]
        pieces = []
        for name in "ab":
            if self.chance.random() > self.slip * 5:
                pieces += ["let", name, "=", str(self.chance.randrange(100))]
        pieces += self.statements(3, self.chance.randrange(1, 8))[0]
        heading = ["people", str(self.people), "friends"]
        for x, y in pairs:
            heading += [str(x), "-", str(y)]
        hall = self.people, tuple(sorted((y, x) for x, y in pairs))
        return self.loosely(heading + pieces), hall, pieces


def runs(many, seed=1):
    """So many programs of at most 2000 signs, as triples of RunMaker.running."""
    maker = RunMaker(seed)
    found = []
    while len(found) < many:
        made = maker.running()
        if len(made[0]) <= 2000:
            found.append(made)
    return found
