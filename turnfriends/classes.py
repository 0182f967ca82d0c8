"""Classes: all halls that come of one by turns, and the fewest turns that lead there."""

from turnfriends.bases import choices_to
from turnfriends.choosing import choices
from turnfriends.errors import BadNumber, NoWay
from turnfriends.halls import need_hall, need_two
from turnfriends.tables import fewest_from, hall_of_masks, masks_of, turned_masks
from turnfriends.values import is_whole


def members(hall):
    """The ascending tuple of the halls of a hall's class."""
    need_hall(hall)
    return tuple(sorted([hall_of_masks(masks) for masks in fewest_from(masks_of(hall))]))


def count_members(hall):
    """How many halls are in a hall's class."""
    need_hall(hall)
    masks = masks_of(hall)
    # Each hall of the class is that of as many choices as there are answers.
    return len(choices(hall)) // len(choices_to(masks, masks))


def least_member(hall):
    """The least hall of a hall's class."""
    return members(hall)[0]


def member_at(hall, number):
    """The hall of a hall's class that has a number in the ascending order, from 0 on."""
    told = members(hall)
    if not is_whole(number) or number < 0 or number >= len(told):
        raise BadNumber("a member's number is at least 0 and less than the number of members")
    return told[number]


def number_of(hall):
    """The number of a hall in its class."""
    return members(hall).index(hall)


def fewest_turns(hall, other):
    """How many turns lead the first hall to the other one at least."""
    return _fewest_to(hall, other)[tuple(masks_of(hall))]


def _fewest_to(hall, other):
    """For each hall of the class, told by its friend masks, how many turns lead to the other hall at least."""
    need_two(hall, other)
    # Turns can be taken back: as many lead there as come from there.
    fewest = fewest_from(masks_of(other))
    if tuple(masks_of(hall)) not in fewest:
        raise NoWay("no turns lead the one hall to the other")
    return fewest


def least_row(hall, other):
    """Of the rows of the fewest turns that lead the first hall to the other one the least."""
    fewest = _fewest_to(hall, other)
    now = tuple(masks_of(hall))
    row = []
    while fewest[now] > 0:
        behind = [tuple(turned_masks(now, x)) for x in range(len(now))]
        nearer = [x for x, told in enumerate(behind) if fewest[told] < fewest[now]]
        row.append(nearer[0])
        now = behind[nearer[0]]
    return tuple(row)


def farthest(hall):
    """The pair of the greatest number of fewest turns to a member, and the members that far."""
    need_hall(hall)
    fewest = fewest_from(masks_of(hall))
    most = max(fewest.values())
    far = [hall_of_masks(masks) for masks, turns in fewest.items() if turns == most]
    return most, tuple(sorted(far))
