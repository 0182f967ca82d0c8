"""Halls as tables of bits, and ranks over 0 and 1.

A set of people is told as a mask, the sum of the 2 ** x of its persons x; a hall as
the list of its friend masks, one for each person. Nothing here is checked.
"""


def masks_of(hall):
    """The friend masks of a hall."""
    n, pairs = hall
    masks = [0] * n
    for x, y in pairs:
        masks[x] |= 1 << y
        masks[y] |= 1 << x
    return masks


def hall_of_masks(masks):
    """The hall of some friend masks."""
    n = len(masks)
    pairs = [(x, y) for x in range(n) for y in range(x + 1, n) if masks[x] >> y & 1]
    return n, tuple(pairs)


def people_in(mask):
    """The ascending tuple of the persons of a mask."""
    return tuple([x for x in range(mask.bit_length()) if mask >> x & 1])


def mask_of(people):
    """The mask of some unlike persons."""
    return sum([1 << x for x in people])


def turned_masks(masks, x):
    """The friend masks behind a turn at x."""
    # A friend of x changes with all other friends of x, but never with itself.
    return [mask ^ masks[x] ^ (1 << y) if masks[x] >> y & 1 else mask for y, mask in enumerate(masks)]


def fewest_from(masks):
    """For the friend masks, as tuples, of all halls that come by turns, how many turns lead there at least."""
    now = [tuple(masks)]
    fewest = {now[0]: 0}
    while len(now) > 0:
        # All halls of one number of turns are known before those of one turn more.
        behind = []
        for told in now:
            for x in range(len(told)):
                other = tuple(turned_masks(told, x))
                if other not in fewest:
                    fewest[other] = fewest[told] + 1
                    behind.append(other)
        now = behind
    return fewest


def masks_without(masks, x):
    """The friend masks of a hall that a person has left; those behind are called one less."""
    ahead = (1 << x) - 1
    return [mask & ahead | mask >> 1 & ~ahead for y, mask in enumerate(masks) if y != x]


def masks_left(masks, x, look):
    """The friend masks behind a person's leaving by a look."""
    known = people_in(masks[x])
    row = []
    if look == "Y":
        row = [x]
    elif look == "X" and len(known) > 0:
        row = [x, known[0], x]
    behind = masks
    for y in row:
        behind = turned_masks(behind, y)
    return masks_without(behind, x)


def part_of(masks, x):
    """The mask of those who hang together with x."""
    reached = 1 << x
    # Whoever hangs together with x does so by fewer than n steps.
    for _ in masks:
        wider = reached
        for y in people_in(reached):
            wider |= masks[y]
        reached = wider
    return reached


def rank_of_table(table):
    """The rank, over 0 and 1, of a table whose rows are told as integers."""
    basis = []
    for row in table:
        rest = row
        for held in basis:
            # The lesser one of the two is the one without the leading bit of what is held.
            rest = min(rest, rest ^ held)
        if rest != 0:
            basis.append(rest)
    return len(basis)


def inverse_of(table):
    """For each place x the mask of the rows that sum up to x alone, [] where they don't for each.

    The table has as many rows as places.
    """
    n = len(table)
    # Behind its own places each row tells which rows were added up to it.
    rows = [row | 1 << (n + k) for k, row in enumerate(table)]
    for x in range(n):
        fit = [k for k in range(x, n) if rows[k] >> x & 1]
        if len(fit) == 0:
            return []
        lead = rows.pop(fit[0])
        rows = [row ^ lead if row >> x & 1 else row for row in rows]
        rows.insert(x, lead)
    return [row >> n for row in rows]


def rank_across(masks, lot):
    """The rank of the table that tells who in a lot, given as a mask, has which friends outside."""
    outside = ((1 << len(masks)) - 1) ^ lot
    return rank_of_table([masks[x] & outside for x in people_in(lot)])
