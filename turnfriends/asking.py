"""People asked by looks: signs of rows, what can come, tables of answers, and what bars them."""

from turnfriends.choosing import left_over
from turnfriends.errors import NotInRoom
from turnfriends.halls import friends, need_hall
from turnfriends.looks import added, is_in_room, own_row, room
from turnfriends.rows import LOOKS, masks_of_looks
from turnfriends.tables import masks_of, people_in

ANSWERS = "01"


def sign_of(hall, row):
    """The sign of a row of a hall's room: -1 for minus, 1 for plus."""
    if not is_in_room(hall, row):
        raise NotInRoom("a row of the hall's room is asked for")
    return -1 if _is_minus(masks_of(hall), row) else 1


def _is_minus(masks, row):
    """Whether the sign of a row of the room is minus."""
    lot, zs = masks_of_looks(row)
    ends = sum([len(people_in(masks[x] & lot)) for x in people_in(lot)])
    ys = len(people_in(lot & zs))
    # Each pair has two ends, and it is half the number of Y's that is added.
    return (ends + ys) // 2 & 1 == 1


def outcomes(hall, choice):
    """The ascending tuple of the texts of answers that can come when each person is asked by a choice's look."""
    rows = left_over(hall, choice)
    masks = masks_of(hall)
    found = [""]
    for _ in masks:
        found = [begun + answer for begun in found for answer in ANSWERS]
    for row in rows:
        asked = [x for x, look in enumerate(row) if look != "."]
        minus = _is_minus(masks, row)
        found = [told for told in found if _is_odd([told[x] for x in asked]) == minus]
    return tuple(found)


def _is_odd(answers):
    """Whether the number of ones among answers is odd."""
    return len([answer for answer in answers if answer == "1"]) & 1 == 1


def is_table(hall, value):
    """Whether a value is a table of answers, to X, Y, Z for each person, that fits."""
    need_hall(hall)
    if not isinstance(value, str) or len(value) != 3 * hall[0]:
        return False
    return all([answer in ANSWERS for answer in value]) and _fits(hall, value)


def _fits(hall, told):
    """Whether the answers of a table at the looks of each row of the room are as its sign tells."""
    masks = masks_of(hall)
    for row in room(hall):
        answers = [told[3 * x + LOOKS.index(look)] for x, look in enumerate(row) if look != "."]
        if _is_odd(answers) != _is_minus(masks, row):
            return False
    return True


def table(hall):
    """The least table that fits; None if there is none."""
    need_hall(hall)
    # Where a person has two friends none fits. Where nobody has, no row's sign is minus.
    least = ANSWERS[0] * (3 * hall[0])
    return least if _fits(hall, least) else None


def bars(hall):
    """Four rows of the room that no table fits; None if nobody has two friends."""
    need_hall(hall)
    for x in range(hall[0]):
        known = friends(hall, x)
        if len(known) > 1:
            return _bars_at(hall, x, known[0], known[1])
    return None


def _bars_at(hall, x, y, z):
    """The four rows for a person and two friends of this one."""
    own, of_y, of_z = [own_row(hall, person) for person in (x, y, z)]
    with_y = added(own, of_y)
    if z in friends(hall, y):
        return own, of_y, of_z, added(with_y, of_z)
    return own, with_y, added(own, of_z), added(with_y, of_z)
