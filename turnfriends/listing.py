"""Lists of halls: the least ones that come by turns and renaming, and those of all classes."""

from turnfriends.errors import BadPeople
from turnfriends.halls import need_few
from turnfriends.tables import hall_of_masks, masks_of, turned_masks
from turnfriends.values import is_whole

MOST_LISTED = 5


def least_named(hall):
    """The least hall that comes of a hall of at most 6 people by turns and renaming."""
    need_few(hall)
    return min([hall_of_masks(masks) for masks in _all_named(masks_of(hall))])


def _all_named(masks):
    """The friend masks, as tuples, of all halls that come by turns and renaming."""
    now = [tuple(masks)]
    seen = {now[0]: True}
    while len(now) > 0:
        behind = []
        for other in [moved for told in now for moved in _moved(told)]:
            if other not in seen:
                seen[other] = True
                behind.append(other)
        now = behind
    return list(seen)


def _moved(masks):
    """The friend masks, as tuples, behind a turn at the person 0, and behind exchanges of names."""
    # Turns at all others, and all renamings, are made up of these.
    moved = [_exchanged(masks, x) for x in range(len(masks) - 1)]
    return [tuple(told) for told in [turned_masks(masks, 0)] + moved]


def _exchanged(masks, x):
    """The friend masks when x and the person behind x exchange their names."""
    both = 3 << x
    told = [mask ^ both if (mask >> x ^ mask >> (x + 1)) & 1 else mask for mask in masks]
    return told[:x] + [told[x + 1], told[x]] + told[x + 2:]


def classes_of(n):
    """The ascending tuple of the least halls, by turns and renaming, of all halls of n people."""
    if not is_whole(n) or n < 1 or n > MOST_LISTED:
        raise BadPeople("classes are listed for 1 to 5 people")
    found = []
    seen = {}
    # Halls ascend, so that the first one of those that come of one another is the least.
    for hall in _all_halls(n):
        if hall not in seen:
            found.append(hall)
            for masks in _all_named(masks_of(hall)):
                seen[hall_of_masks(masks)] = True
    return tuple(found)


def _all_halls(n):
    """The ascending list of all halls of n people."""
    pairs = [(x, y) for x in range(n) for y in range(x + 1, n)]
    lots = [()]
    for pair in pairs:
        lots = lots + [(*lot, pair) for lot in lots]
    return sorted([(n, lot) for lot in lots])
