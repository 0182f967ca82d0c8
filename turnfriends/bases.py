"""Choices of the looks of a hall, and their base rows. Nothing here is checked.

The table of a choice tells for each person, as a mask, at whom the person's own row has
neither nothing nor the choice's look. A row of the room goes with the choice just where
these sum up to nothing, so that the table's rank tells how many do.
"""

from turnfriends.rows import LOOKS, known_to, masks_of_looks
from turnfriends.tables import inverse_of, rank_of_table


def choices_of(n):
    """All choices of n people, ascending."""
    found = [""]
    for _ in range(n):
        found = [begun + look for begun in found for look in LOOKS]
    return found


def _table_of(masks, choice):
    """The table of a choice."""
    xs, zs = masks_of_looks(choice)
    return [mask & xs ^ (1 << x) & zs for x, mask in enumerate(masks)]


def over(masks, choice):
    """How many signs a choice leaves over."""
    return len(masks) - rank_of_table(_table_of(masks, choice))


def bases_of(masks, choice):
    """The base rows of a choice, as pairs of masks; none if it leaves something over."""
    return [(lot, known_to(masks, lot)) for lot in inverse_of(_table_of(masks, choice))]


def masks_of_choice(masks, choice):
    """The friend masks of the hall of a choice; none if it leaves something over."""
    # At all others a base row has the choice's look or nothing.
    return [(xs | zs) & ~(1 << x) for x, (xs, zs) in enumerate(bases_of(masks, choice))]


def choices_to(masks, aim):
    """The ascending list of the choices whose hall has the friend masks of the aim."""
    return [choice for choice in choices_of(len(masks)) if masks_of_choice(masks, choice) == aim]
