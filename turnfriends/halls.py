"""Halls: who is whose friend, turns, the ranks and parts that turns keep, and renaming."""

from turnfriends.errors import BadHall, BadLot, BadOrder, BadRow, NoPerson, NotFriends, Unlike
from turnfriends.tables import hall_of_masks, mask_of, masks_of, part_of, people_in, rank_across, turned_masks
from turnfriends.values import MOST_FEW, MOST_PEOPLE, are_persons, ascends, is_person, is_whole, lesser_first

MOST_TURNS = 200


def is_hall(value):
    """Whether a value is a hall: a pair of its number of people and its tuple of pairs of friends."""
    if not isinstance(value, tuple) or len(value) != 2:
        return False
    n, pairs = value
    if not is_whole(n) or n < 1 or n > MOST_PEOPLE or not isinstance(pairs, tuple):
        return False
    return all([_is_pair(pair, n) for pair in pairs]) and ascends(pairs)


def _is_pair(value, n):
    """Whether a value is a pair of two persons, the lesser one in front."""
    return are_persons(value, n) and len(value) == 2 and value[0] < value[1]


def need_hall(value):
    """Raises BadHall for a value that is no hall."""
    if not is_hall(value):
        raise BadHall("a hall is (n, pairs), n from 1 to 8, the pairs of friends ascending")


def need_few(value):
    """Raises BadHall for a value that is no hall of at most 6 people."""
    need_hall(value)
    if value[0] > MOST_FEW:
        raise BadHall("a hall of at most 6 people is asked for")


def need_two(hall, other):
    """Raises the errors of two values that are not halls of as many people."""
    need_hall(hall)
    need_hall(other)
    if hall[0] != other[0]:
        raise Unlike("two halls of as many people are asked for")


def need_person(hall, value):
    """Raises NoPerson for a value that is no person of a hall."""
    if not is_person(value, hall[0]):
        raise NoPerson("a person is an integer from 0 to n - 1")


def is_row(hall, value):
    """Whether a value is a row of persons of a hall."""
    return are_persons(value, hall[0]) and len(value) <= MOST_TURNS


def need_row(hall, value):
    """Raises BadRow for a value that is no row of persons of a hall."""
    if not is_row(hall, value):
        raise BadRow("a row is a tuple of at most 200 persons")


def is_lot(hall, value):
    """Whether a value is a lot of persons of a hall."""
    return are_persons(value, hall[0]) and ascends(value)


def need_lot(hall, value):
    """Raises BadLot for a value that is no lot of persons of a hall."""
    if not is_lot(hall, value):
        raise BadLot("a lot is an ascending tuple of unlike persons")


def need_order(hall, value):
    """Raises BadOrder for a value that is no order of the persons of a hall."""
    if not are_persons(value, hall[0]) or sorted(value) != list(range(hall[0])):
        raise BadOrder("an order is a tuple of all persons, each once")


def friends(hall, x):
    """The ascending tuple of the friends of x."""
    need_hall(hall)
    need_person(hall, x)
    return people_in(masks_of(hall)[x])


def turned(hall, x):
    """The hall behind a turn at x."""
    need_hall(hall)
    need_person(hall, x)
    return _behind_turns(hall, (x,))


def turned_all(hall, row):
    """The hall behind the turns at the persons of a row, one behind another."""
    need_hall(hall)
    need_row(hall, row)
    return _behind_turns(hall, row)


def swapped(hall, x, y):
    """The hall behind the turns at x, y, x, for two friends."""
    need_hall(hall)
    need_person(hall, x)
    need_person(hall, y)
    if not masks_of(hall)[x] >> y & 1:
        raise NotFriends("a swap takes two friends")
    return _behind_turns(hall, (x, y, x))


def _behind_turns(hall, row):
    """The hall behind the turns of a row that is known to be one."""
    masks = masks_of(hall)
    for x in row:
        masks = turned_masks(masks, x)
    return hall_of_masks(masks)


def rank_of(hall, lot):
    """The rank of the table that tells who in a lot is a friend of whom outside."""
    need_hall(hall)
    need_lot(hall, lot)
    return rank_across(masks_of(hall), mask_of(lot))


def ranks(hall):
    """The tuple of the ranks of all lots, by the lots' numbers."""
    need_hall(hall)
    masks = masks_of(hall)
    # The number of a lot is its mask.
    return tuple([rank_across(masks, lot) for lot in range(1 << len(masks))])


def parts(hall):
    """The tuple of the lots of people who hang together, ordered by their least persons."""
    need_hall(hall)
    masks = masks_of(hall)
    found = []
    seen = 0
    for x in range(len(masks)):
        if not seen >> x & 1:
            part = part_of(masks, x)
            found.append(people_in(part))
            seen |= part
    return tuple(found)


def renamed(hall, order):
    """The hall in which each person x is called order[x]."""
    need_hall(hall)
    need_order(hall, order)
    n, pairs = hall
    return n, tuple(sorted([lesser_first(order[x], order[y]) for x, y in pairs]))
