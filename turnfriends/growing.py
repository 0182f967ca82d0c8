"""Lots that are split off, and halls that grow by bringing in one person behind another."""

from turnfriends.errors import BadSteps, NotGrown
from turnfriends.halls import need_hall
from turnfriends.tables import hall_of_masks, masks_of, people_in, rank_across
from turnfriends.values import MOST_PEOPLE, is_person

WORDS = ("friend", "stranger")


def splits(hall):
    """The tuple of the lots with the person 0 that are split off, by their numbers."""
    need_hall(hall)
    masks = masks_of(hall)
    # The number of a lot is its mask; those with the person 0 are the odd ones.
    lots = range(1, 1 << len(masks), 2)
    return tuple([people_in(lot) for lot in lots if _is_split_off(masks, lot)])


def _is_split_off(masks, lot):
    """Whether a lot, given as a mask, is split off."""
    inside = len(people_in(lot))
    return inside >= 2 and len(masks) - inside >= 2 and rank_across(masks, lot) <= 1


def is_grown(hall):
    """Whether a hall grows."""
    need_hall(hall)
    return len(_growth(masks_of(hall))) > 0


def growth(hall):
    """The tuple of steps by which a hall grows, of those who can have come last the greatest one last."""
    need_hall(hall)
    steps = _growth(masks_of(hall))
    if len(steps) == 0:
        raise NotGrown("the hall doesn't come of one person by bringing in one behind another")
    return tuple(steps)


def _growth(masks):
    """The steps by which the hall of some friend masks grows; none if it doesn't."""
    steps = []
    there = (1 << len(masks)) - 1
    # Whoever can have come last may go first: if all of them grow, the others do, too.
    while there != 0:
        last = _last_steps(masks, there)
        if len(last) == 0:
            return []
        steps.append(last[-1])
        there ^= 1 << last[-1][1]
    return steps[::-1]


def _last_steps(masks, there):
    """The steps of those who can have come last to the others there, ascending by their persons."""
    steps = [_last_step(masks, there, x) for x in people_in(there)]
    return [step for step in steps if len(step) > 0]


def _last_step(masks, there, x):
    """The step by which x can have come last to the others there; () if there is none."""
    others = there & ~(1 << x)
    known = people_in(masks[x] & others)
    if len(known) == 0:
        return "alone", x
    if len(known) == 1:
        return "leaf", x, known[0]
    for y in people_in(others):
        # But for one another the two know the same people.
        if (masks[x] ^ masks[y]) & others & ~(1 << y) == 0:
            return "twin", x, y, WORDS[0] if y in known else WORDS[1]
    return ()


def grown(steps):
    """The hall that steps make."""
    if not isinstance(steps, tuple) or len(steps) < 1 or len(steps) > MOST_PEOPLE:
        raise BadSteps("a hall grows by a tuple of 1 to 8 steps")
    masks = [0] * len(steps)
    there = 0
    for step in steps:
        if not _can_come(step, there, len(steps)):
            raise BadSteps("a step tells a new person, and how this one is brought to those there")
        known = _known_by(step, masks)
        x = step[1]
        masks[x] = known
        for y in people_in(known):
            masks[y] |= 1 << x
        there |= 1 << x
    return hall_of_masks(masks)


def _can_come(step, there, n):
    """Whether a value is a step by which a person, one of n, can be brought to those there."""
    if not isinstance(step, tuple) or len(step) < 2 or not is_person(step[1], n) or there >> step[1] & 1:
        return False
    if step[0] == "alone":
        return len(step) == 2
    if len(step) < 3 or not is_person(step[2], n) or not there >> step[2] & 1:
        return False
    if step[0] == "leaf":
        return len(step) == 3
    return step[0] == "twin" and len(step) == 4 and step[3] in WORDS


def _known_by(step, masks):
    """The mask of those there whom the person of a step knows."""
    if step[0] == "alone":
        return 0
    y = step[2]
    if step[0] == "leaf":
        return 1 << y
    return masks[y] | 1 << y if step[3] == WORDS[0] else masks[y]
