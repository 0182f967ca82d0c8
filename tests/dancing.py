"""Other roads to what dances tell: by the order of their places, and by walks along the ends of paths."""

import functools
import itertools
import random

ONE_BY_ONE = {n: tuple(x for x in range(n) for _ in range(2)) for n in range(1, 9)}


def all_dances(n):
    """All dances of n persons, ascending."""
    return sorted(placed([None] * (2 * n), n))


def placed(dance, n):
    """All dances that come by putting the persons below n at free places."""
    if n == 0:
        yield tuple(dance)
        return
    free = [place for place, told in enumerate(dance) if told is None]
    for one, other in itertools.combinations(free, 2):
        dance[one] = dance[other] = n - 1
        yield from placed(dance, n - 1)
        dance[one] = dance[other] = None


def some_dances(n, many):
    """Everyone side by side, everyone far apart, persons side by side across the end, and some drawn ones."""
    chance = random.Random(n + 20)
    yield ONE_BY_ONE[n]
    yield ONE_BY_ONE[n][1:] + ONE_BY_ONE[n][:1]
    yield tuple(range(n)) * 2
    yield (*range(n), *reversed(range(n)))
    for _ in range(many):
        yield tuple(chance.sample(ONE_BY_ONE[n], 2 * n))


def places(dance, x):
    return tuple(place for place, told in enumerate(dance) if told == x)


def hall_of(dance):
    """Friends are those whose places come by turns."""
    n = len(dance) // 2
    pairs = []
    for x, y in itertools.combinations(range(n), 2):
        (a, b), (c, d) = places(dance, x), places(dance, y)
        if a < c < b < d or c < a < d < b:
            pairs.append((x, y))
    return n, tuple(pairs)


def turned(dance, x):
    """Each person between the two places of x changes places with the one as far from the other end."""
    first, second = places(dance, x)
    return tuple(told if not first < place < second else dance[first + second - place] for place, told in enumerate(dance))


def least(dance):
    """The least one of all places to begin at, both ways round."""
    many = len(dance)
    rounds = []
    for begin in range(many):
        for step in (1, -1):
            rounds.append(tuple(dance[(begin + step * k) % many] for k in range(many)))
    return min(rounds)


@functools.lru_cache(maxsize=None)
def dances_by_hall(n):
    """For each hall of n people that has dances their least ones, of all dances gone through."""
    found = {}
    for dance in all_dances(n):
        found.setdefault(hall_of(dance), set()).add(least(dance))
    return {hall: tuple(sorted(told)) for hall, told in found.items()}


def rounds(dance):
    """All tours, as dances, that go along each path once; each comes of one choice of ways at the crossings.

    The path k joins the end (k, 0) at the place k and the end (k, 1) at the next place. A tour begins with
    the path 0 as it is danced, and may go on with any end of its crossing that is still free.
    """
    many = len(dance)
    at = {(k, side): dance[(k + side) % many] for k in range(many) for side in (0, 1)}
    ends = {x: [end for end, y in at.items() if y == x] for x in dance}
    return list(gone_on(at, ends, [(0, 0)], {(0, 0), (0, 1)}))


def gone_on(at, ends, tour, used):
    k, side = tour[-1]
    here = at[k, 1 - side]
    if len(used) == len(at):
        # The last end that is free at the first crossing is that of the path that comes back there.
        yield tuple(at[end] for end in tour)
        return
    for end in ends[here]:
        if end not in used:
            yield from gone_on(at, ends, tour + [end], used | {end, (end[0], 1 - end[1])})
