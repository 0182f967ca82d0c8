"""Changes of the names of looks, and the answers that lead a room to another one."""

from turnfriends.bases import bases_of, choices_to
from turnfriends.errors import BadChange
from turnfriends.halls import need_two
from turnfriends.looks import need_any_looks
from turnfriends.rows import LOOKS, looks_of_masks
from turnfriends.tables import mask_of, masks_of, rank_of_table

CHANGES = ("XYZ", "XZY", "YXZ", "YZX", "ZXY", "ZYX")


def need_change(value, n):
    """Raises BadChange for a value that is no change of names of n people."""
    if not isinstance(value, tuple) or len(value) != n or not all([told in CHANGES for told in value]):
        raise BadChange("a change of names is a tuple of a text of the letters X, Y, Z for each person")


def changed(row, change):
    """A row of looks behind a change of names."""
    need_any_looks(row)
    need_change(change, len(row))
    return "".join([_renamed_look(look, told) for look, told in zip(row, change)])


def _renamed_look(look, told):
    """What a look, or nothing, is behind a change of one person's names."""
    if look == ".":
        return look
    return told[LOOKS.index(look)]


def answers(hall, other):
    """The ascending tuple of the changes of names that lead the first hall's room to the other one's."""
    need_two(hall, other)
    masks = masks_of(hall)
    # The looks that go to Z for all are a choice; its base rows go to the own rows of the other hall.
    return tuple(sorted([_change_of(masks, choice) for choice in choices_to(masks, masks_of(other))]))


def _change_of(masks, choice):
    """The change of names that leads a choice to Z for all and the looks of its base rows, at their own, to X."""
    n = len(masks)
    rows = [looks_of_masks(n, xs, zs) for xs, zs in bases_of(masks, choice)]
    return tuple([_change_by(rows[x][x], choice[x]) for x in range(n)])


def _change_by(to_x, to_z):
    """The change of one person's names by which a look goes to X, and another one to Z."""
    goes = {to_x: "X", to_z: "Z"}
    return "".join([goes.get(look, "Y") for look in LOOKS])


def count_answers(hall, other):
    """How many answers there are."""
    need_two(hall, other)
    return len(choices_to(masks_of(hall), masks_of(other)))


def equations(hall, other):
    """The tuple of the equations, each as the tuple of its coefficients, person by person a, b, c, d."""
    need_two(hall, other)
    masks = masks_of(hall)
    other_masks = masks_of(other)
    n = len(masks)
    return tuple([_equation(masks, x, other_masks, y) for x in range(n) for y in range(n)])


def _equation(masks, x, other_masks, y):
    """The equation that x's own row, changed, doesn't meet y's own row of the other hall oddly."""
    told = []
    for p in range(len(masks)):
        has_x = int(p == x)
        has_z = masks[x] >> p & 1
        other_x = int(p == y)
        other_z = other_masks[y] >> p & 1
        told.extend([has_x & other_z, has_x & other_x, has_z & other_z, has_z & other_x])
    return tuple(told)


def free_signs(hall, other):
    """The number of the signs less the rank of the equations."""
    told = equations(hall, other)
    return 4 * hall[0] - rank_of_table([_mask_of_signs(signs) for signs in told])


def _mask_of_signs(signs):
    """An equation as a mask."""
    return mask_of([k for k, sign in enumerate(signs) if sign == 1])
