"""The desk: a hall that is turned and left step by step, and steps taken back."""

from turnfriends.classes import count_members
from turnfriends.errors import InvalidDesk, NothingDone, NotText
from turnfriends.halls import need_hall, ranks, swapped, turned
from turnfriends.leading import paper
from turnfriends.leaving import left
from turnfriends.trees import is_tree
from turnfriends.values import MOST_PEOPLE, ascends


class Desk:
    """A hall as it is behind what was done with it, and what was done."""

    def __init__(self, hall):
        need_hall(hall)
        self._now = hall
        self._done = []
        self._before = []

    def _do(self, step, behind):
        """Notes a step and the hall behind it."""
        self._before.append(self._now)
        self._done.append(step)
        self._now = behind

    def turn(self, x):
        """Turns at x."""
        self._do(("turn", x), turned(self._now, x))

    def swap(self, x, y):
        """Turns at x, y, x, for two friends."""
        self._do(("swap", x, y), swapped(self._now, x, y))

    def leave(self, x, look):
        """Lets x leave by a look."""
        self._do(("leave", x, look), left(self._now, x, look))

    def undo(self):
        """Takes back the last thing that was done and is not taken back."""
        if len(self._done) == 0:
            raise NothingDone("nothing is done that could be taken back")
        self._done.pop()
        self._now = self._before.pop()

    def hall(self):
        """The hall as it is."""
        return self._now

    def row(self):
        """The tuple of what was done and is not taken back."""
        return tuple(self._done)

    def ranks(self):
        """The ranks of all lots of the hall as it is."""
        return ranks(self._now)

    def is_tree(self):
        """Whether the hall as it is is a tree."""
        return is_tree(self._now)

    def count(self):
        """How many members the class of the hall as it is has."""
        return count_members(self._now)

    def aim(self, other):
        """The paper on the hall as it is and another one."""
        return paper(self._now, other)

    def text(self):
        """The two lines that tell the hall as it is."""
        n, pairs = self._now
        line = " ".join(["friends"] + [_pair_text(x, y) for x, y in pairs])
        return f"{_people_line(n)}\n{line}\n"


def _people_line(n):
    """The first line of a desk's text."""
    return f"people {n}"


def _pair_text(x, y):
    """A pair in the second line."""
    return f"{x}-{y}"


def desk_of(text):
    """The desk of a text of the two lines that a desk tells."""
    if not isinstance(text, str):
        raise NotText("a desk is read from a text")
    # The last of these has no line end, so that it is none of the two lines, whatever it is.
    lines = text.split("\n")
    ended = len(lines) - 1
    first_lines = [_people_line(n) for n in range(1, MOST_PEOPLE + 1)]
    if ended < 1 or lines[0] not in first_lines:
        raise InvalidDesk(0)
    n = first_lines.index(lines[0]) + 1
    if ended < 2 or not _tells_pairs(lines[1], n):
        raise InvalidDesk(1)
    if lines[2:] != [""]:
        raise InvalidDesk(2)
    return Desk((n, _pairs_told(lines[1], n)))


def _pairs_by_text(n):
    """The pairs of n people by what is written for them."""
    return {_pair_text(x, y): (x, y) for x in range(n) for y in range(x + 1, n)}


def _tells_pairs(line, n):
    """Whether a line tells pairs of n people, ascending, as the second line does."""
    first, *written = line.split(" ")
    known = _pairs_by_text(n)
    return first == "friends" and all([word in known for word in written]) and ascends(_pairs_told(line, n))


def _pairs_told(line, n):
    """The pairs that a second line tells."""
    known = _pairs_by_text(n)
    return tuple([known[word] for word in line.split(" ")[1:]])
