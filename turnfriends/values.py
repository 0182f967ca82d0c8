"""What values are: integers, persons, and tuples of them."""

MOST_PEOPLE = 8
# The bound of what goes through too many halls, dances or ways with more people.
MOST_FEW = 6


def is_whole(value):
    """Whether a value is an integer; True and False are none."""
    return isinstance(value, int) and not isinstance(value, bool)


def is_person(value, n):
    """Whether a value is a person of a hall of n people."""
    return is_whole(value) and is_whole(n) and 0 <= value < n


def are_persons(value, n):
    """Whether a value is a tuple of persons of a hall of n people."""
    return isinstance(value, tuple) and all([is_person(x, n) for x in value])


def ascends(row):
    """Whether each part of a row, all of one kind, is less than the one behind it."""
    return all([one < other for one, other in zip(row, row[1:])])


def lesser_first(x, y):
    """Two persons as a pair, the lesser one in front."""
    return min(x, y), max(x, y)
