"""Choices: what they leave over, their base rows and halls, and walks between them."""

from turnfriends.bases import bases_of, choices_of, masks_of_choice, over
from turnfriends.errors import BadChoice, LeavesOver
from turnfriends.halls import need_hall, need_person
from turnfriends.looks import room
from turnfriends.rows import LOOKS, looks_of_masks, third_look
from turnfriends.tables import hall_of_masks, masks_of


def need_choice(hall, value):
    """Raises BadChoice for a value that is no choice of a hall."""
    if not isinstance(value, str) or len(value) != hall[0] or not all([look in LOOKS for look in value]):
        raise BadChoice("a choice is a text of one of the letters XYZ for each person")


def need_whole(hall, value):
    """Raises the errors of a value that is no choice of a hall that leaves nothing over."""
    need_choice(hall, value)
    if over(masks_of(hall), value) > 0:
        raise LeavesOver("a choice that leaves nothing over is asked for")


def left_over(hall, choice):
    """The ascending tuple of the rows of the room that have at each person the choice's look or nothing."""
    need_hall(hall)
    need_choice(hall, choice)
    return tuple([row for row in room(hall) if _goes_with(row, choice)])


def _goes_with(row, choice):
    """Whether a row of looks has at each person the choice's look or nothing."""
    return all([look in (".", chosen) for look, chosen in zip(row, choice)])


def signs_over(hall, choice):
    """The k for which the choice leaves 2 ** k rows over."""
    need_hall(hall)
    need_choice(hall, choice)
    return over(masks_of(hall), choice)


def choices(hall):
    """The ascending tuple of the choices that leave nothing over."""
    need_hall(hall)
    masks = masks_of(hall)
    return tuple([choice for choice in choices_of(hall[0]) if over(masks, choice) == 0])


def base_row(hall, choice, x):
    """The row of the room that has the choice's look or nothing at all but x, and at x another look."""
    need_hall(hall)
    need_whole(hall, choice)
    need_person(hall, x)
    return _base_rows(hall, choice)[x]


def _base_rows(hall, choice):
    """The base rows of all persons, as texts."""
    return [looks_of_masks(hall[0], xs, zs) for xs, zs in bases_of(masks_of(hall), choice)]


def hall_of(hall, choice):
    """The hall in which those are friends at whom one another's base rows have the choice's look."""
    need_hall(hall)
    need_whole(hall, choice)
    return hall_of_masks(masks_of_choice(masks_of(hall), choice))


def third(hall, choice, x):
    """The choice with, at x, the look that neither it nor its base row has there."""
    need_hall(hall)
    need_whole(hall, choice)
    need_person(hall, x)
    return _third(choice, x, _base_rows(hall, choice)[x])


def _third(choice, x, row):
    """The third of a choice at x, by x's base row."""
    return choice[:x] + third_look(choice[x], row[x]) + choice[x + 1:]


def walk(hall, choice, other):
    """A row of persons at whom thirds lead from a choice to another one."""
    need_hall(hall)
    need_whole(hall, choice)
    need_whole(hall, other)
    row = []
    now = choice
    while now != other:
        for x in _next_of_walk(now, other, _base_rows(hall, now)):
            now = _third(now, x, _base_rows(hall, now)[x])
            row.append(x)
    return tuple(row)


def _next_of_walk(now, other, rows):
    """The next persons of a walk: one whom a third brings the other choice's look, or two whom three thirds do."""
    apart = [x for x in range(len(now)) if now[x] != other[x]]
    for x in apart:
        if rows[x][x] != other[x]:
            return (x,)
    # Now the other choice has the looks of the base rows. It leaves nothing over, not x's
    # base row either: one of those apart is x's friend. Thirds at x, y, x bring both their looks.
    x = apart[0]
    known = [y for y in apart if y != x and rows[x][y] != "."]
    return x, known[0], x
