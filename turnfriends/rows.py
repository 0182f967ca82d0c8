"""Rows of looks as pairs of masks: of those with the look X or Y, and of those with Z or Y.

The sum of two rows is then that of the masks, and own rows are told by friend masks.
Nothing here is checked.
"""

from turnfriends.tables import mask_of, people_in

LOOKS = "XYZ"
LETTERS = ".XZY"


def masks_of_looks(row):
    """The pair of masks of a row of looks."""
    xs = mask_of([x for x, look in enumerate(row) if look in "XY"])
    zs = mask_of([x for x, look in enumerate(row) if look in "ZY"])
    return xs, zs


def looks_of_masks(n, xs, zs):
    """The row of looks of n people that a pair of masks tells."""
    return "".join([LETTERS[(xs >> x & 1) + 2 * (zs >> x & 1)] for x in range(n)])


def known_to(masks, lot):
    """The mask of those who are friends of an odd number of people of a lot."""
    told = 0
    for x in people_in(lot):
        told ^= masks[x]
    return told


def third_look(one, other):
    """The sum of two unlike looks."""
    return [look for look in LOOKS if look not in (one, other)][0]
