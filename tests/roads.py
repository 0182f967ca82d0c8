"""Other roads to what halls tell: by sets of friends, in place of bits."""

import itertools


def are_friends(hall, x, y):
    return (min(x, y), max(x, y)) in hall[1]


def friends(hall, x):
    return tuple(y for y in range(hall[0]) if are_friends(hall, x, y))


def turned(hall, x):
    """The hall whose pairs are those of the hall, changed where both are friends of x."""
    known = friends(hall, x)
    changed = set(hall[1]) ^ set(itertools.combinations(known, 2))
    return hall[0], tuple(sorted(changed))


def rank(table):
    """The rank over 0 and 1: 2 ** rank unlike sums can be made of the rows."""
    if not table:
        return 0
    sums = {tuple([0] * len(table[0]))}
    for row in table:
        sums |= {tuple((one + other) % 2 for one, other in zip(row, told)) for told in sums}
    return len(sums).bit_length() - 1


def rank_of(hall, lot):
    outside = [y for y in range(hall[0]) if y not in lot]
    return rank([[int(are_friends(hall, x, y)) for y in outside] for x in lot])


def lots(n):
    """All lots, by their numbers."""
    return [tuple(x for x in range(n) if m // 2 ** x % 2 == 1) for m in range(2 ** n)]


def parts(hall):
    """Each person is alone at first; each pair then brings two lots together."""
    lot_of = {x: {x} for x in range(hall[0])}
    for x, y in hall[1]:
        both = lot_of[x] | lot_of[y]
        for z in both:
            lot_of[z] = both
    return tuple(sorted({tuple(sorted(lot)) for lot in lot_of.values()}))
