"""Leaving: the halls that a person can leave, and the small halls that lie in a hall."""

from turnfriends.classes import least_member
from turnfriends.errors import BadHall, BadLook, BadWho
from turnfriends.halls import need_hall, need_person, renamed
from turnfriends.rows import LOOKS
from turnfriends.tables import fewest_from, hall_of_masks, masks_left, masks_of
from turnfriends.values import are_persons


def need_look(value):
    """Raises BadLook for a value that is no look."""
    if not isinstance(value, str) or len(value) != 1 or value not in LOOKS:
        raise BadLook("a look is one of the letters X, Y, Z")


def left(hall, x, look):
    """The hall behind a person's leaving: as it is, behind a turn, or behind a swap with the least friend."""
    need_hall(hall)
    if hall[0] < 2:
        raise BadHall("somebody leaves a hall of two or more people")
    need_person(hall, x)
    need_look(look)
    return hall_of_masks(masks_left(masks_of(hall), x, look))


def all_left(hall, x):
    """The ascending tuple of the least members of the classes of the halls behind a person's leaving."""
    return tuple(sorted({least_member(left(hall, x, look)) for look in LOOKS}))


def need_who(small, hall, value):
    """Raises BadWho for a value that doesn't tell one person of the hall for each of the small one."""
    if not are_persons(value, hall[0]) or len(value) != small[0] or len(set(value)) != len(value):
        raise BadWho("who is a tuple of unlike persons of the hall, one for each person of the small one")


def lies_in(small, hall, who):
    """Whether turns and the leaving of all others lead a hall to a small one, who[i] then being called i."""
    need_hall(small)
    need_hall(hall)
    need_who(small, hall, who)
    # Those who stay keep their order, and are called by their places in it.
    staying = sorted(who)
    aims = fewest_from(masks_of(renamed(small, tuple([staying.index(x) for x in who]))))
    return any([told in aims for told in _behind_leaving(hall, staying)])


def _behind_leaving(hall, staying):
    """The friend masks of halls behind the leaving of all who don't stay: any that comes leads to one of these."""
    found = {tuple(masks_of(hall)): True}
    # The greatest ones leave first, so that nobody who is still to leave is called otherwise.
    for x in reversed(range(hall[0])):
        if x not in staying:
            found = {tuple(masks_left(told, x, look)): True for told in found for look in LOOKS}
    return list(found)
