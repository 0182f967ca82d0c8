"""Programs of turns, read from texts.

A program is told as (n, pairs, statements): pairs as they stand in the text; a statement
is a tuple that begins with its key, behind which stand its parts in their order. A block
is a tuple of statements, an else that is left out an empty one. An E is told as
("number", k), ("name", word), ("people",), ("circle", E), ("minus", E), or (sign, E, E),
the sign being +, -, * or mod.
"""

from turnfriends.errors import BadPair, InvalidText, NotText
from turnfriends.pieces import pieces_of
from turnfriends.values import MOST_PEOPLE

MOST_SIGNS = 2000
MOST_PIECES = 60
MOST_BRACKETS = 30
KEYS = ("people", "friends", "turn", "swap", "if", "when", "else", "repeat", "let", "say", "circle", "mod")
FIRST_WORDS = ("turn", "swap", "if", "when", "repeat", "let", "say")


class Reader:
    """Stands at one piece of a text after another, and goes on where it can stand there."""

    def __init__(self, text):
        self.pieces = pieces_of(text)
        self.spot = 0
        self.inside = 0
        self.bound = len(self.pieces)

    def kind(self):
        """The kind of the piece that stands here."""
        return self.pieces[self.spot][0]

    def told(self):
        """What the piece that stands here tells."""
        return self.pieces[self.spot][1]

    def need(self, holds):
        """Raises InvalidText at the piece that stands here if a condition doesn't hold."""
        if not holds:
            raise InvalidText(self.pieces[self.spot][2])

    def take(self):
        """What the piece that stands here tells; goes behind it."""
        told = self.told()
        self.need(self.spot < self.bound)
        if told in ("{", "("):
            self.need(self.inside < MOST_BRACKETS)
            self.inside += 1
        if told in ("}", ")"):
            self.inside -= 1
        self.spot += 1
        return told

    def take_this(self, told):
        """Goes behind a word or sign that must stand here."""
        self.need(self.told() == told)
        self.take()

    def take_number(self):
        """Goes behind a number that must stand here, and tells it."""
        self.need(self.kind() == "number")
        return self.take()

    def take_name(self):
        """Goes behind a name that must stand here, and tells it."""
        self.need(self.kind() == "word" and self.told() not in KEYS)
        return self.take()

    def begin_bounded(self):
        """Lets no more than 60 pieces be taken from here on."""
        self.bound = self.spot + MOST_PIECES

    def end_bounded(self):
        """Lets any number of pieces be taken again."""
        self.bound = len(self.pieces)


def read_program(text):
    """The program of a text."""
    if not isinstance(text, str):
        raise NotText("a program is a text")
    if len(text) > MOST_SIGNS:
        raise InvalidText(MOST_SIGNS)
    reader = Reader(text)
    n = _read_people(reader)
    pairs = _read_pairs(reader)
    statements = _read_statements(reader)
    reader.need(reader.kind() == "end")
    _need_pairs(n, pairs)
    return n, pairs, statements


def _read_people(reader):
    """The number of people, the beginning of the heading."""
    reader.take_this("people")
    reader.need(reader.kind() == "number" and 1 <= reader.told() <= MOST_PEOPLE)
    return reader.take()


def _read_pairs(reader):
    """The pairs of the heading, as they are told."""
    reader.take_this("friends")
    pairs = []
    while reader.kind() == "number":
        x = reader.take_number()
        reader.take_this("-")
        y = reader.take_number()
        pairs.append((x, y))
    return tuple(pairs)


def _need_pairs(n, pairs):
    """Raises BadPair for the first pair that isn't of two unlike people, or is told before."""
    known = {}
    for x, y in pairs:
        if x == y or x >= n or y >= n or (x, y) in known:
            raise BadPair(x, y)
        known[(x, y)] = True
        known[(y, x)] = True


def _read_statements(reader):
    """The statements that stand here, as many as there are."""
    statements = []
    while reader.told() in FIRST_WORDS:
        statements.append(_read_statement(reader))
    return tuple(statements)


def _read_statement(reader):
    """One statement."""
    key = reader.take()
    if key == "let":
        name = reader.take_name()
        reader.take_this("=")
        return key, name, _read_reckoning(reader)
    first = _read_reckoning(reader)
    if key in ("turn", "say"):
        return key, first
    if key == "repeat":
        return key, first, _read_block(reader)
    if key == "when":
        block = _read_block(reader)
        return key, first, block, _read_else(reader)
    reader.take_this(",")
    second = _read_reckoning(reader)
    if key == "swap":
        return key, first, second
    block = _read_block(reader)
    return key, first, second, block, _read_else(reader)


def _read_block(reader):
    """The statements of a block."""
    reader.take_this("{")
    statements = _read_statements(reader)
    reader.take_this("}")
    return statements


def _read_else(reader):
    """The statements of an else, none if it doesn't stand here."""
    if reader.told() != "else":
        return ()
    reader.take()
    return _read_block(reader)


def _read_reckoning(reader):
    """A whole E, of at most 60 pieces."""
    reader.begin_bounded()
    told = _read_sum(reader)
    reader.end_bounded()
    return told


def _read_sum(reader):
    """Sums and differences, from the left."""
    part = _read_product(reader)
    while reader.told() in ("+", "-"):
        sign = reader.take()
        part = (sign, part, _read_product(reader))
    return part


def _read_product(reader):
    """Products and rests, from the left."""
    part = _read_thing(reader)
    while reader.told() in ("*", "mod"):
        sign = reader.take()
        part = (sign, part, _read_thing(reader))
    return part


def _read_thing(reader):
    """One thing alone: a number, a name, people, circle, an E in brackets, or a minus ahead of a thing."""
    if reader.kind() == "number":
        return "number", reader.take()
    if reader.told() == "people":
        reader.take()
        return ("people",)
    if reader.told() == "-":
        reader.take()
        return "minus", _read_thing(reader)
    if reader.told() == "circle":
        reader.take()
        return "circle", _read_bracket(reader)
    if reader.told() == "(":
        return _read_bracket(reader)
    return "name", reader.take_name()


def _read_bracket(reader):
    """An E in brackets."""
    reader.take_this("(")
    part = _read_sum(reader)
    reader.take_this(")")
    return part
