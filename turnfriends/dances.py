"""Round dances: their halls, the dances of a hall, and the tours through a yard."""

from turnfriends.bases import choices_of
from turnfriends.errors import BadDance, NoPerson
from turnfriends.halls import need_few
from turnfriends.tables import hall_of_masks, masks_of
from turnfriends.values import MOST_FEW, MOST_PEOPLE, are_persons, is_person, lesser_first


def need_dance(value, most):
    """Raises BadDance for a value that is no dance of at most so many persons."""
    if not isinstance(value, tuple) or len(value) < 2 or len(value) > 2 * most:
        raise BadDance("a dance is a tuple of two places for each person")
    n = len(value) // 2
    if not are_persons(value, n) or sorted(value) != [x for x in range(n) for _ in range(2)]:
        raise BadDance("each person stands in a dance twice")


def _places(dance, x):
    """The two places of a person in a dance."""
    return [place for place, y in enumerate(dance) if y == x]


def hall_of_dance(dance):
    """The hall in which those are friends of whom one stands once between the two places of the other."""
    need_dance(dance, MOST_PEOPLE)
    return hall_of_masks([_once_between(dance, x) for x in range(len(dance) // 2)])


def _once_between(dance, x):
    """The mask of those who stand once between the two places of a person."""
    first, second = _places(dance, x)
    told = 0
    for y in dance[first + 1:second]:
        told ^= 1 << y
    return told


def turned_dance(dance, x):
    """The dance with the piece between the two places of x read backwards."""
    need_dance(dance, MOST_PEOPLE)
    if not is_person(x, len(dance) // 2):
        raise NoPerson("a person of a dance is an integer from 0 to n - 1")
    first, second = _places(dance, x)
    return dance[:first + 1] + dance[first + 1:second][::-1] + dance[second:]


def least_dance(dance):
    """The least tuple that comes by beginning a dance at another place and by reading it backwards."""
    need_dance(dance, MOST_PEOPLE)
    return _least(dance)


def _least(dance):
    """The least tuple of a dance that is known to be one."""
    # It begins with the least person.
    both = (dance, dance[::-1])
    return min([told[place:] + told[:place] for told in both for place in _places(told, 0)])


def dances(hall):
    """The ascending tuple of all least dances of a hall of at most 6 people."""
    need_few(hall)
    return tuple(sorted([dance for dance in _dances_from_first(hall) if _least(dance) == dance]))


def is_danced(hall):
    """Whether a hall of at most 6 people is the hall of a dance."""
    need_few(hall)
    return len(_dances_from_first(hall)) > 0


def _dances_from_first(hall):
    """All dances of a hall that begin with the person 0."""
    masks = masks_of(hall)
    found = [(0, 0)]
    for x in range(1, len(masks)):
        # Those behind x don't stand in the dance yet.
        known = masks[x] & ((1 << x) - 1)
        found = [longer for dance in found for longer in _brought_in(dance, x, known)]
    return found


def _brought_in(dance, x, known):
    """All dances in which x stands in a dance, too, and just those of a mask stand once between."""
    odd = [0]
    for y in dance:
        odd.append(odd[-1] ^ 1 << y)
    places = range(1, len(dance) + 1)
    spots = [(i, j) for i in places for j in places if i <= j and odd[i] ^ odd[j] == known]
    return [dance[:i] + (x,) + dance[i:j] + (x,) + dance[j:] for i, j in spots]


def yard(dance):
    """The ascending tuple of the paths, as pairs of persons, by which a dance goes round."""
    need_dance(dance, MOST_PEOPLE)
    return tuple(sorted([lesser_first(x, y) for x, y in zip(dance, dance[1:] + dance[:1])]))


def tours(dance):
    """The ascending tuple of the least dances that go round by all paths of a dance's yard."""
    need_dance(dance, MOST_FEW)
    return tuple(sorted({_least(tour) for tour in _tours(dance)}))


def count_tours(dance):
    """How many ways at the crossings of a dance's yard make one single tour."""
    need_dance(dance, MOST_FEW)
    return len(_tours(dance))


def _tours(dance):
    """The list of the tours of all ways that make one single tour."""
    # The three ways at each crossing are told by letters, as choices are.
    rounds = [_tour_by(dance, _across(dance, ways)) for ways in choices_of(len(dance) // 2)]
    return [told for told in rounds if len(told) == len(dance)]


def _across(dance, ways):
    """For each end of a path the end that is gone to from there across the crossing.

    At a place k the end of the path that comes there is 2 k, that of the path from there 2 k + 1.
    """
    across = [0] * (2 * len(dance))
    for x, way in enumerate(ways):
        first, second = _places(dance, x)
        ends = [2 * first, 2 * first + 1, 2 * second, 2 * second + 1]
        if way == "Y":
            ends = [ends[0], ends[2], ends[1], ends[3]]
        if way == "X":
            ends = [ends[0], ends[3], ends[1], ends[2]]
        for one, other in ((ends[0], ends[1]), (ends[2], ends[3])):
            across[one] = other
            across[other] = one
    return across


def _tour_by(dance, across):
    """The persons met on the tour that begins with the path from the first place."""
    met = []
    end = 1
    while len(met) == 0 or end != 1:
        # A path joins the end 2 k + 1 and the end 2 k + 2, the last one the last end and the first.
        arrived = (end + 1 if end & 1 else end - 1) % len(across)
        met.append(dance[arrived // 2])
        end = across[arrived]
    return tuple(met)
