"""The errors of the package: one class for each kind of wrong value or wrong text."""


class HallError(ValueError):
    """The base class of all errors of the package."""


class BadHall(HallError):
    """A value that is no hall, or none that is taken here."""


class NoPerson(HallError):
    """A value that is no person of the hall."""


class BadRow(HallError):
    """A value that is no row of at most 200 persons."""


class NotFriends(HallError):
    """Two persons who are not friends, where friends are asked for."""


class BadLot(HallError):
    """A value that is no ascending tuple of unlike persons."""


class BadOrder(HallError):
    """A value that is no tuple of all persons, each once."""


class NotText(HallError):
    """A value that is no text."""


class InvalidText(HallError):
    """A text that is no program, from the sign with the index `place` on."""

    def __init__(self, place):
        super().__init__(f"no program from the sign {place} on")
        self.place = place


class BadPair(HallError):
    """A pair of a heading that is not of two unlike people of the hall, or is told before."""

    def __init__(self, x, y):
        super().__init__(f"{x}-{y} is no new pair of two people of the hall")
        self.x = x
        self.y = y


class Unset(HallError):
    """A name that is used before it is set."""

    def __init__(self, name):
        super().__init__(f"{name} is not set")
        self.name = name


class BadRest(HallError):
    """A rest by less than 1."""


class TooGreat(HallError):
    """A number that is too far from 0."""


class TooMuch(HallError):
    """A run of more than `most` statements or turns."""

    def __init__(self, most):
        super().__init__(f"more than {most} in one run")
        self.most = most


class BadLooks(HallError):
    """A value that is no row of looks, or none as long as is asked for."""


class BadChoice(HallError):
    """A value that is no choice."""


class LeavesOver(HallError):
    """A choice that leaves something over, where one that doesn't is asked for."""


class BadChange(HallError):
    """A value that is no change of names."""


class Unlike(HallError):
    """Two halls of unlike numbers of people."""


class NoWay(HallError):
    """Two halls of which no turns lead one to the other."""


class BadNumber(HallError):
    """A value that is no number of a member."""


class BadLook(HallError):
    """A value that is no look."""


class BadWho(HallError):
    """A value that doesn't tell one person of the hall for each of the small one."""


class NoTree(HallError):
    """A hall that is no tree."""


class BadDance(HallError):
    """A value that is no dance, or none that is taken here."""


class NothingDone(HallError):
    """Nothing is there to be taken back."""


class InvalidDesk(HallError):
    """A text that is no desk's, from the line with the index `at` on."""

    def __init__(self, at):
        super().__init__(f"no desk from the line {at} on")
        self.at = at


class NotGrown(HallError):
    """A hall that doesn't grow."""


class BadSteps(HallError):
    """A value that is no tuple of steps by which a hall grows."""


class BadPeople(HallError):
    """A value that is no number of people, or none that is taken here."""


class NotInRoom(HallError):
    """A row of looks that is not in the room."""
