"""Looks: rows of them, their sums, and the room of a hall."""

from turnfriends.errors import BadLooks
from turnfriends.halls import need_hall, need_person
from turnfriends.rows import known_to, looks_of_masks, masks_of_looks
from turnfriends.tables import masks_of, people_in
from turnfriends.values import MOST_PEOPLE


def need_looks(value, n):
    """Raises BadLooks for a value that is no row of looks of n people."""
    if not isinstance(value, str) or len(value) != n or not all([look in ".XYZ" for look in value]):
        raise BadLooks("a row of looks is a text of one of the letters .XYZ for each person")


def need_any_looks(value):
    """Raises BadLooks for a value that is no row of looks of any number of people."""
    if not isinstance(value, str) or len(value) < 1 or len(value) > MOST_PEOPLE:
        raise BadLooks("a row of looks is a text of 1 to 8 letters")
    need_looks(value, len(value))


def _need_alike(one, other):
    """Raises BadLooks for two values that are not rows of looks as long as one another."""
    need_any_looks(one)
    need_looks(other, len(one))


def added(one, other):
    """The sum of two rows of looks, letter by letter."""
    _need_alike(one, other)
    xs, zs = masks_of_looks(one)
    more_xs, more_zs = masks_of_looks(other)
    return looks_of_masks(len(one), xs ^ more_xs, zs ^ more_zs)


def meet_oddly(one, other):
    """Whether two rows of looks have unlike looks, neither nothing, at an odd number of places."""
    _need_alike(one, other)
    xs, zs = masks_of_looks(one)
    other_xs, other_zs = masks_of_looks(other)
    unlike = xs & other_zs ^ zs & other_xs
    return len(people_in(unlike)) & 1 == 1


def own_row(hall, x):
    """The row of looks with X at x and Z at x's friends."""
    need_hall(hall)
    need_person(hall, x)
    return looks_of_masks(hall[0], 1 << x, masks_of(hall)[x])


def room(hall):
    """The ascending tuple of all sums of own rows."""
    need_hall(hall)
    n = hall[0]
    masks = masks_of(hall)
    return tuple(sorted([looks_of_masks(n, lot, known_to(masks, lot)) for lot in range(1 << n)]))


def is_in_room(hall, row):
    """Whether a row of looks is one of a hall's room."""
    need_hall(hall)
    need_looks(row, hall[0])
    xs, zs = masks_of_looks(row)
    # In a room the persons with X or Y tell whose own rows were added up.
    return known_to(masks_of(hall), xs) == zs
