"""Programs of turns, run."""

from turnfriends.errors import BadRest, NoPerson, NotFriends, TooGreat, TooMuch, Unset
from turnfriends.halls import MOST_TURNS
from turnfriends.reading import read_program
from turnfriends.tables import hall_of_masks, masks_of, people_in, turned_masks
from turnfriends.values import is_person

MOST_STATEMENTS = 2000
GREATEST = 1000000


class State:
    """A hall as a run has changed it so far, and what the run has done, said and set."""

    def __init__(self, hall):
        self.masks = masks_of(hall)
        self.row = []
        self.said = []
        self.names = {}
        self.begun = 0

    def begin(self):
        """Counts a statement that begins."""
        self.begun += 1
        if self.begun > MOST_STATEMENTS:
            raise TooMuch(MOST_STATEMENTS)

    def turn_at(self, people):
        """Turns at some persons, one behind another."""
        for x in people:
            self.masks = turned_masks(self.masks, x)
            self.row.append(x)
        if len(self.row) > MOST_TURNS:
            raise TooMuch(MOST_TURNS)

    def need_people(self, told):
        """Raises NoPerson if not all of some numbers are persons."""
        if not all([is_person(x, len(self.masks)) for x in told]):
            raise NoPerson("a person is a number from 0 to the number of people less 1")

    def are_friends(self, x, y):
        """Whether two persons are friends now."""
        return self.masks[x] >> y & 1 == 1


def run(text):
    """The hall at a program's end, the row of its turns, and the numbers said."""
    n, pairs, statements = read_program(text)
    state = State((n, pairs))
    _do_all(state, statements)
    return hall_of_masks(state.masks), tuple(state.row), tuple(state.said)


def _do_all(state, statements):
    """Does some statements, one behind another."""
    for statement in statements:
        _do(state, statement)


def _do(state, statement):
    """Does one statement."""
    state.begin()
    key = statement[0]
    if key == "let":
        state.names[statement[1]] = _reckoned(state, statement[2])
    elif key in ("swap", "if"):
        _do_for_two(state, statement)
    else:
        _do_for_one(state, statement, _reckoned(state, statement[1]))


def _do_for_one(state, statement, told):
    """Does a statement of one E, of which it is known what it tells."""
    key = statement[0]
    if key == "turn":
        state.need_people((told,))
        state.turn_at((told,))
    elif key == "say":
        state.said.append(told)
    elif key == "when":
        _do_all(state, statement[2] if told != 0 else statement[3])
    else:
        _do_often(state, told, statement[2])


def _do_often(state, many, block):
    """Does a block so many times."""
    # No statement of an empty block would ever end a run that goes over it too often.
    if len(block) > 0:
        for _ in range(many):
            _do_all(state, block)


def _do_for_two(state, statement):
    """Does a swap or an if."""
    x = _reckoned(state, statement[1])
    y = _reckoned(state, statement[2])
    state.need_people((x, y))
    friendly = state.are_friends(x, y)
    if statement[0] == "if":
        _do_all(state, statement[3] if friendly else statement[4])
    elif friendly:
        state.turn_at((x, y, x))
    else:
        raise NotFriends("a swap takes two friends")


def _reckoned(state, part):
    """The number that an E tells."""
    kind = part[0]
    if kind == "number":
        return part[1]
    if kind == "people":
        return len(state.masks)
    if kind == "name":
        return _set_number(state, part[1])
    told = _reckoned(state, part[1])
    if kind == "minus":
        return -told
    if kind == "circle":
        state.need_people((told,))
        return len(people_in(state.masks[told]))
    return _worked(kind, told, _reckoned(state, part[2]))


def _set_number(state, name):
    """The number that a name is set to."""
    if name not in state.names:
        raise Unset(name)
    return state.names[name]


def _worked(sign, one, other):
    """What a sign makes of two numbers."""
    if sign == "+":
        told = one + other
    elif sign == "-":
        told = one - other
    elif sign == "*":
        told = one * other
    else:
        told = _rest(one, other)
    if abs(told) > GREATEST:
        raise TooGreat("a number of a program is at most 10 ** 6 on either side of 0")
    return told


def _rest(one, other):
    """What is left of one number by another one."""
    if other < 1:
        raise BadRest("a rest is one by 1 or more")
    return one % other
