"""Other roads to what halls tell: by sets of friends, in place of bits."""

import functools
import itertools


def are_friends(hall, x, y):
    return (min(x, y), max(x, y)) in hall[1]


def friends(hall, x):
    return tuple(y for y in range(hall[0]) if are_friends(hall, x, y))


def turned(hall, x):
    """The hall whose pairs are those of the hall, changed where both are friends of x."""
    known = friends(hall, x)
    changed = set(hall[1]) ^ set(itertools.combinations(known, 2))
    return hall[0], tuple(sorted(changed))


def rank(table):
    """The rank over 0 and 1: 2 ** rank unlike sums can be made of the rows."""
    if not table:
        return 0
    sums = {tuple([0] * len(table[0]))}
    for row in table:
        sums |= {tuple((one + other) % 2 for one, other in zip(row, told)) for told in sums}
    return len(sums).bit_length() - 1


def rank_of(hall, lot):
    outside = [y for y in range(hall[0]) if y not in lot]
    return rank([[int(are_friends(hall, x, y)) for y in outside] for x in lot])


def lots(n):
    """All lots, by their numbers."""
    return [tuple(x for x in range(n) if m // 2 ** x % 2 == 1) for m in range(2 ** n)]


def parts(hall):
    """Each person is alone at first; each pair then brings two lots together."""
    lot_of = {x: {x} for x in range(hall[0])}
    for x, y in hall[1]:
        both = lot_of[x] | lot_of[y]
        for z in both:
            lot_of[z] = both
    return tuple(sorted({tuple(sorted(lot)) for lot in lot_of.values()}))


def changes(n):
    """All changes of names of n people, ascending."""
    return list(itertools.product(["XYZ", "XZY", "YXZ", "YZX", "ZXY", "ZYX"], repeat=n))


def rows_of_looks(n):
    """All rows of looks of n people, ascending."""
    return ["".join(row) for row in itertools.product(".XYZ", repeat=n)]


def choices_of(n):
    return ["".join(row) for row in itertools.product("XYZ", repeat=n)]


def sum_of_two(one, other):
    """The sum of two looks, or of a look and nothing."""
    if "." in (one, other):
        return min(one + other, other + one)[1]
    if one == other:
        return "."
    return next(look for look in "XYZ" if look not in one + other)


def added(one, other):
    return "".join(sum_of_two(*both) for both in zip(one, other))


def meet_oddly(one, other):
    met = [both for both in zip(one, other) if "." not in both and both[0] != both[1]]
    return len(met) % 2 == 1


def own_row(hall, x):
    return "".join("X" if y == x else "Z" if are_friends(hall, x, y) else "." for y in range(hall[0]))


@functools.lru_cache(maxsize=None)
def room(hall):
    """All sums of own rows, each brought in behind the others."""
    rows = {"." * hall[0]}
    for x in range(hall[0]):
        rows |= {added(row, own_row(hall, x)) for row in rows}
    return tuple(sorted(rows))


def fits(look, chosen):
    return look in (".", chosen)


def left_over(hall, choice):
    return tuple(row for row in room(hall) if all(map(fits, row, choice)))


def base_rows(hall, choice, x):
    """The rows that may be called the base row of x; in a choice that leaves nothing over it is one."""
    found = []
    for row in room(hall):
        others = [y for y in range(hall[0]) if y != x]
        if row[x] not in (".", choice[x]) and all(fits(row[y], choice[y]) for y in others):
            found.append(row)
    return found


def hall_of(hall, choice):
    bases = [base_rows(hall, choice, x)[0] for x in range(hall[0])]
    pairs = [(x, y) for x, y in itertools.combinations(range(hall[0]), 2) if bases[x][y] == choice[y]]
    return hall[0], tuple(pairs)


def changed(row, change):
    return "".join(look if look == "." else told["XYZ".index(look)] for look, told in zip(row, change))


def is_answer(hall, other, change):
    return tuple(sorted(changed(row, change) for row in room(hall))) == room(other)


def signs(change):
    """The signs of a change, person by person a, b, c, d."""
    told = []
    for goes in change:
        to_x, to_z = goes[0], goes[2]
        told += [int(to_x in "XY"), int(to_x in "ZY"), int(to_z in "XY"), int(to_z in "ZY")]
    return told


@functools.lru_cache(maxsize=None)
def class_of(hall):
    """The ascending list of all halls that come by turns."""
    found = [hall]
    for told in found:
        found += sorted({turned(told, x) for x in range(hall[0])} - set(found))
    return sorted(found)


def rows_to(hall):
    """For each hall that comes by turns the first row that leads there, all rows gone through: shorter ones,
    then lesser ones first."""
    rows = [((), hall)]
    first = {hall: ()}
    while len(first) < len(class_of(hall)):
        rows = [(row + (x,), turned(told, x)) for row, told in rows for x in range(hall[0])]
        for row, told in rows:
            first.setdefault(told, row)
    return first


def without(hall, x):
    """The hall that x has left: those behind x are called one less."""
    stay = [pair for pair in hall[1] if x not in pair]
    return hall[0] - 1, tuple(tuple(y - (y > x) for y in pair) for pair in stay)


def moved(named):
    """What comes of people and their pairs, told by their own names, by one turn or one who leaves."""
    people, pairs = named
    for x in people:
        yield tuple(y for y in people if y != x), frozenset(pair for pair in pairs if x not in pair)
        known = [y for y in people if frozenset((x, y)) in pairs]
        yield people, pairs ^ {frozenset(two) for two in itertools.combinations(known, 2)}


@functools.lru_cache(maxsize=None)
def come_of(hall):
    """All that comes of a hall by turns and leaving, in any order, told by the people's own names."""
    found = {(tuple(range(hall[0])), frozenset(map(frozenset, hall[1])))}
    fresh = found
    while fresh:
        fresh = {told for named in fresh for told in moved(named)} - found
        found = found | fresh
    return found


@functools.lru_cache(maxsize=None)
def behind_leaving(hall, who):
    """All halls that come by turns and the leaving of all but those of who, these called by their places in who."""
    found = set()
    for people, pairs in come_of(hall):
        if people == tuple(sorted(who)):
            told = sorted(tuple(sorted(who.index(x) for x in pair)) for pair in pairs)
            found.add((len(who), tuple(told)))
    return found
