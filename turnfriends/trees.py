"""Trees: halls that hang together and have one pair less than people, and their names."""

from turnfriends.errors import NoTree
from turnfriends.halls import need_hall
from turnfriends.tables import masks_of, part_of, people_in


def is_tree(hall):
    """Whether a hall is a tree."""
    need_hall(hall)
    n, pairs = hall
    everybody = (1 << n) - 1
    return len(pairs) == n - 1 and part_of(masks_of(hall), 0) == everybody


def tree_name(hall):
    """The text that a tree has in common with just those trees to which renaming leads it."""
    if not is_tree(hall):
        raise NoTree("a tree hangs together and has one pair less than people")
    masks = masks_of(hall)
    return min([_name_beneath(masks, x, 0) for x in range(len(masks))])


def _name_beneath(masks, x, above):
    """The name of a person; above is the mask of the one who stands above, 0 on top."""
    beneath = people_in(masks[x] & ~above)
    names = sorted([_name_beneath(masks, y, 1 << x) for y in beneath])
    return "(" + "".join(names) + ")"
