"""Whether turns lead one hall to another one, by which turns, and papers that show it."""

from turnfriends.bases import choices_to
from turnfriends.choosing import walk
from turnfriends.errors import NoWay
from turnfriends.halls import is_lot, is_row, need_two, rank_of, ranks, turned_all
from turnfriends.tables import masks_of, people_in


def leads(hall, other):
    """Whether turns lead the first hall to the other one."""
    need_two(hall, other)
    return len(_choices_to(hall, other)) > 0


def _choices_to(hall, other):
    """The choices of the first hall whose hall is the other one: there are some if there are answers."""
    return choices_to(masks_of(hall), masks_of(other))


def turns_to(hall, other):
    """A row of at most 3 n / 2 persons whose turns lead the first hall to the other one."""
    need_two(hall, other)
    found = _choices_to(hall, other)
    if len(found) == 0:
        raise NoWay("no turns lead the one hall to the other")
    return _turns_to_one(hall, found)


def _turns_to_one(hall, found):
    """A row of persons whose turns lead to the hall of some choices."""
    # The hall itself is that of Z for all, the greatest choice, and each third is a turn.
    return walk(hall, "Z" * hall[0], found[-1])


def paper(hall, other):
    """What shows that turns lead the first hall to the other one, or that they don't."""
    need_two(hall, other)
    found = _choices_to(hall, other)
    if len(found) > 0:
        return "turns", _turns_to_one(hall, found)
    for lot, (one, two) in enumerate(zip(ranks(hall), ranks(other))):
        if one != two:
            return "ranks", people_in(lot)
    return ("none",)


def judged(hall, other, paper):
    """Whether a paper, any value, shows what it tells."""
    need_two(hall, other)
    if paper == ("none",):
        return not leads(hall, other)
    if not isinstance(paper, tuple) or len(paper) != 2:
        return False
    kind, shown = paper
    if kind == "turns":
        return is_row(hall, shown) and turned_all(hall, shown) == other
    if kind == "ranks":
        return is_lot(hall, shown) and rank_of(hall, shown) != rank_of(other, shown)
    return False
