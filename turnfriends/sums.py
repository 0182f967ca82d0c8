"""Sums over all lots, and over all choices, of a hall."""

from turnfriends.bases import choices_of, over
from turnfriends.halls import need_hall
from turnfriends.tables import masks_of, people_in, rank_of_table


def sum_of_lots(hall):
    """The numbers of the sum, over all lots, of powers of x - 1: people in the lot less their table's rank."""
    need_hall(hall)
    masks = masks_of(hall)
    return _sum_of_powers(1, [_lacking(masks, lot) for lot in range(1 << len(masks))])


def _lacking(masks, lot):
    """How much less than the people in a lot, given as a mask, the rank of their own table is."""
    people = people_in(lot)
    return len(people) - rank_of_table([masks[x] & lot for x in people])


def sum_of_choices(hall):
    """The numbers of the sum, over all choices, of powers of x - 2: the signs that the choice leaves over."""
    need_hall(hall)
    masks = masks_of(hall)
    return _sum_of_powers(2, [over(masks, choice) for choice in choices_of(len(masks))])


def _sum_of_powers(less, powers):
    """The numbers c0, c1, .. of the sum of some powers of x - less."""
    many = [0] * (max(powers) + 1)
    for power in powers:
        many[power] += 1
    told = []
    # From the highest power down: what is summed up so far, by x - less, and those of this power.
    for times in reversed(many):
        by_x = [times, *told]
        by_less = [less * number for number in told] + [0]
        told = [one - other for one, other in zip(by_x, by_less)]
    return tuple(told)
