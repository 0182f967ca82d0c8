"""Values that tests hand in: halls of all sizes, and wrong values of all kinds."""

import itertools
import random


def pairs_of(n):
    return list(itertools.combinations(range(n), 2))


def all_halls(n):
    pairs = pairs_of(n)
    for told in itertools.product((False, True), repeat=len(pairs)):
        yield n, tuple(pair for pair, there in zip(pairs, told) if there)


def some_halls(n, many):
    """Nobody, everybody and some in between as friends; the same ones at each call."""
    chance = random.Random(1000 * n + many)
    yield n, ()
    yield n, tuple(pairs_of(n))
    for k in range(many):
        density = (k % 5 + 1) / 6
        yield n, tuple(pair for pair in pairs_of(n) if chance.random() < density)


def halls():
    """All halls of up to 4 people, some of 5 to 8."""
    for n in range(1, 5):
        yield from all_halls(n)
    for n in range(5, 9):
        yield from some_halls(n, 20)


def nested(kind, deep):
    value = kind()
    for _ in range(deep):
        value = {0: value} if kind is dict else kind([value])
    return value


HUGE = 10 ** 5000

# Right for no parameter but such as take any value.
WRONG = [
    None, True, False, "", "0", "hall", "(1, ())", -1, -HUGE, HUGE, 2 ** 64, 200, [], [0], [0, 1], {}, {0: 1}, {"n": 3},
    (None,), (True,), (False, True), ("0",), ((0,),), ((),), ([],), ({},), (-1,), (HUGE,), (-HUGE,), (99,),
    nested(tuple, 30), nested(list, 30), nested(dict, 30), (0, nested(tuple, 29)), (0, None), (0, True), (0, [1]),
]

WRONG_HALLS = WRONG + [
    0, 3, (), (3,), (3, (), ()), [3, ()], (3, []), (3, [(0, 1)]), (3, ([0, 1],)), (3, {}), (3, {0: 1}), (3, {(0, 1): 1}),
    (3, None), (3, "01"), (3, ("01",)), (3, (None,)), (3, 0), (3, (0, 1)), (3, True), ((), 3), ((), ()),
    (0, ()), (9, ()), (-1, ()), (HUGE, ()), (-HUGE, ()), (True, ()), (False, ()), (None, ()), ("3", ()), ((3,), ()),
    (3, ((),)), (3, ((0,),)), (3, ((0, 1, 2),)), (3, ((0, 1), (1, 2, 0))), (3, ((1, 0),)), (3, ((0, 0),)), (3, ((2, 1),)),
    (3, ((0, 3),)), (3, ((3, 4),)), (3, ((-1, 0),)), (3, ((0, HUGE),)), (3, ((0, True),)), (2, ((False, True),)),
    (2, ((False, 1),)), (3, ((0, "1"),)), (3, ((0, None),)), (3, ((0, (1,)),)), (3, ((0, [1]),)), (3, ((0, {}),)),
    (3, ((1, 2), (0, 1))), (3, ((0, 2), (0, 1))), (3, ((0, 1), (0, 1))), (3, ((0, 1), (0, 2), (0, 1))), (1, ((0, 1),)),
    (1, ((0, 0),)), (8, ((0, 8),)), (3, ((0, 1), None)), (3, (None, (0, 1))), (3, ((0, 1), nested(tuple, 28))),
    (3, (nested(tuple, 28),)), (2, ((0, 1),), None), (True, ((0, 1),)), (9, ((0, 1),)),
]

WRONG_PERSONS = [value for value in WRONG] + [(), (0,), (0, 1), 8, 9, 10 ** 18, [1], "1"]

WRONG_ROWS = [*WRONG, 0, 3, "012", [0, 1], {0: 0}, (3,), (0, 3), (0, 1, -1), (0, "1"), (0, (1,)), (0, 1, True), (0,) * 201]

WRONG_LOTS = [
    *WRONG, 0, "01", [0, 1], {0: 0}, (1, 0), (0, 0), (0, 2, 1), (0, 1, 1), (0, 3), (3,), (0, 1, 2, 3), (0, 1, 2, 2),
    (False,), (0, True, 2), ((0, 1),),
]

WRONG_ORDERS = [
    *WRONG, 0, "012", (), [0, 1, 2], {0: 0, 1: 1, 2: 2}, (0,), (0, 1), (0, 1, 1), (0, 1, 2, 2), (0, 1, 2, 3), (1, 2, 3),
    (0, 0, 0), (0, 1, "2"), (0, True, 2), (False, 1, 2), (0, 1, None), (0, 1, (2,)), (0, 1, HUGE),
]

# Wrong whatever the number of people is.
WRONG_ANY_LOOKS = [
    *WRONG, 0, 3, "........X", "XYZXYZXYZ", "xyz", "XYW", "X Z", "XY\n", "X-Z", "XYZ ", " XYZ", "X,Y", "0XY", "XY0", "XYx",
    "XY\u0396", "X" * 2001, ["X", "Y", "Z"], ("X", "Y", "Z"), ("XYZ",), ["XYZ"], {"XYZ": 1}, ("X",), ("...",),
]

WRONG_LOOKS = [*WRONG_ANY_LOOKS, "X", ".", "XY", "..", "....", "XYZX", "XYZ.", "XXXXXXXX"]

WRONG_CHOICES = [*WRONG_LOOKS, "...", "XY.", ".XY", "X.Z", "XYZ.", ".XYZ"]

WRONG_CHANGES = [
    *WRONG, 0, "XYZ", "XYZXYZXYZ", (), ("XYZ",), ("XYZ", "XYZ"), ("XYZ",) * 4, ["XYZ"] * 3, {"XYZ": "XYZ"},
    ("XYZ", "XYZ", "XXZ"), ("XYZ", "XYZ", "XY"), ("XYZ", "XYZ", "XY."), ("XYZ", "XYZ", "XYZX"), ("XYZ", "XYZ", "xyz"),
    ("XYZ", "XYZ", ""), ("XYZ", "XYZ", None), ("XYZ", "XYZ", ("X", "Y", "Z")), (["X", "Y", "Z"], "XYZ", "XYZ"),
    ("XYZ", 0, "XYZ"), ("XYZ", True, "XYZ"), ("...", "XYZ", "XYZ"), ("ZZZ", "XYZ", "XYZ"), ("XYZ", "XYZ", {}),
]

WRONG_NUMBERS = [*WRONG, "1", (1,), [1], {1: 1}, (), 4, 5, -4, 10 ** 18, -2]

WRONG_LOOK_VALUES = [
    *WRONG, 0, 1, ".", "x", "W", "XY", "XYZ", "XX", " X", "X ", "X\n", "..", ["X"], ("X",), {"X": 1}, ("Z", "Z"), "YZ", (),
]

# For a small hall of two people in one of three.
WRONG_WHOS = [
    *WRONG, 0, 2, "01", (), (0,), (0, 1, 2), [0, 1], {0: 0, 1: 1}, (0, 0), (1, 1),
    (0, 3), (3, 0), (-1, 0), (0, -1), (0, "1"), ("0", 1), (0, 1, 1), (0, (1,)), (False, 1), (0, HUGE), (2,), (0, 1, True),
]

ANY_VALUES = [*WRONG_HALLS, ("none",), ("turns", ()), ("ranks", ()), ("ranks", (0,)), ("turns", (0,) * 201), ("turns",)]

WRONG_DANCES = [
    *WRONG, 0, 3, "0011", "00", (), (0,), (0, 0, 0), (0, 1), (1, 1), (0, 0, 1), (0, 0, 0, 0), (0, 0, 1, 1, 1), (0, 0, 0, 1),
    (0, 0, 2, 2), (0, 0, 1, 2), (0, 0, 1, -1), (-1, -1), (0, 1, 0, 2), [0, 0], [0, 0, 1, 1], {0: 0, 1: 1}, ((0, 0),),
    ((0, 1), (0, 1)), (0, "0"), ("0", "0"), (0, False), (False, 0), (0, True, 0, True), (0, 0, 1, True), (0, None),
    (0, 0, HUGE, HUGE), (0, 0, 1, [1]), (0, 0, (1,), 1), (0, 0, {}, {}), (0, 0, nested(tuple, 28), 1), (0, 0, 1, 1, 1, 1),
    tuple(range(9)) * 2, (0, 0, *range(1, 9), *range(1, 9)), tuple(range(8)) * 2 + (0,), tuple(range(8)), (1, 1, 2, 2),
    (0, 0, 1, 1, 3, 3), tuple(range(100)) * 2, (0, 0, 1, 1, 2, 2, 2, 2), (0, 1, 1, 1), (0,) * 16,
]

START = ("alone", 0)
WRONG_STEPS = [
    *WRONG, 0, "alone", (), [START], {START: 1}, START, (START, None), (START, []), (START, {}), (START, ()), (START, "alone"),
    (["alone", 0],), (START, ["alone", 1]), (START, ["leaf", 1, 0]), (("alone",),), (("alone", 0, 0),), ((0, "alone"),),
    # The first one is alone.
    (("leaf", 0, 0),), (("leaf", 0, 1), ("alone", 1)), (("twin", 0, 0, "friend"),), (("twin", 0, 1, "friend"), ("alone", 1)),
    # Told twice, not there, the same one, a gap.
    (START, START), (START, ("leaf", 0, 0)), (START, ("alone", 1), ("leaf", 0, 1)), (START, ("leaf", 1, 2), ("alone", 2)),
    (START, ("leaf", 1, 1)), (START, ("twin", 1, 1, "friend")), (START, ("twin", 1, 2, "stranger"), ("alone", 2)),
    (START, ("alone", 2)), (("alone", 1),), (("alone", 1), ("alone", 2)), (START, ("leaf", 2, 0)), (START, ("alone", -1)),
    (START, ("alone", HUGE)), (START, ("leaf", 1, HUGE)), (START, ("leaf", 1, -1)), (START, ("alone", True)),
    (("alone", False),), (START, ("leaf", 1, False)), (START, ("leaf", True, 0)), (START, ("twin", 1, False, "friend")),
    (START, ("alone", None)), (START, ("alone", "1")), (START, ("alone", (1,))), (START, ("leaf", 1, None)),
    (START, ("leaf", 1, (0,))), (START, ("leaf", 1, [0])), (START, ("alone", [1])),
    # Words, and steps too long and too short.
    (START, ("twin", 1, 0, "friends")), (START, ("twin", 1, 0, "")), (START, ("twin", 1, 0, "Friend")),
    (START, ("twin", 1, 0, None)), (START, ("twin", 1, 0, True)), (START, ("twin", 1, 0, ["friend"])),
    (START, ("twin", 1, 0, ("friend",))), (START, ("twin", 1, 0, {})), (START, ("twin", 1, 0, 0)),
    (START, ("twin", 1, 0)), (START, ("twin", 1)), (START, ("twin", 1, 0, "friend", "friend")), (START, ("leaf", 1)),
    (START, ("leaf", 1, 0, "friend")), (START, ("leaf", 1, 0, 0)), (START, ("alone", 1, 0)), (START, ("alone", 1, None)),
    (START, ("Alone", 1)), (START, ("", 1)), (START, (None, 1)), (START, (True, 1)), (START, ([], 1)), (START, ({}, 1, 0)),
    (START, ("Leaf", 1, 0)), (START, ("leaves", 1, 0)), (START, ("twins", 1, 0, "friend")), (START, (("alone",), 1)),
    (START, ("friend", 1, 0, "twin")), (START, (nested(tuple, 28), 1)), (START, ("alone", nested(tuple, 28))),
    (START, ("twin", 1, 0, nested(tuple, 28))), (START, ("leaf", 1, nested(list, 28))),
    # Nine persons.
    tuple(("alone", x) for x in range(9)), (START, *[("leaf", x, 0) for x in range(1, 9)]),
    tuple(("alone", x) for x in range(100)), tuple(("alone", 0) for _ in range(9)),
]

WRONG_PEOPLE = [0, 6, 7, 8, -2, "1", "5", (1,), (3,), [1], {1: 1}, (), (3, ()), (3, ((0, 1),)), 10 ** 18]
