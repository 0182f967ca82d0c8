"""Widths: the greatest ranks by which the people of a hall can be put in an order."""

from turnfriends.halls import need_hall, need_order, ranks
from turnfriends.tables import mask_of


def width_of(hall, order):
    """The greatest rank of the lots of the first persons of an order."""
    need_hall(hall)
    need_order(hall, order)
    told = ranks(hall)
    return max([told[mask_of(order[:many])] for many in range(len(order) + 1)])


def width(hall):
    """The least width of all orders."""
    return _widths_from(hall)[0]


def narrow_order(hall):
    """The least order of the least width of all."""
    widths = _widths_from(hall)
    order = []
    lot = 0
    for _ in range(hall[0]):
        fit = [x for x in _people_outside(hall[0], lot) if widths[lot | 1 << x] <= widths[0]]
        order.append(fit[0])
        lot |= 1 << fit[0]
    return tuple(order)


def _people_outside(n, lot):
    """The persons outside of a lot, given as a mask, ascending."""
    return [x for x in range(n) if not lot >> x & 1]


def _widths_from(hall):
    """For each lot, by its number, the least width, from there on, of the orders that begin with its persons."""
    widths = list(ranks(hall))
    # A lot with one person more has a greater number: what is known of it is known before.
    for lot in reversed(range(len(widths) - 1)):
        least = min([widths[lot | 1 << x] for x in _people_outside(hall[0], lot)])
        widths[lot] = max(widths[lot], least)
    return widths
