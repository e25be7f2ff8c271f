"""The plain one among the standings that differ by the order of their copies alone."""


def arranged(standing, order):
    """The standing whose copies stand in an order of the places of this one."""
    stamps, lots, mark = standing
    news = {}
    for new, old in enumerate(order):
        news[old] = new
    moved = [tuple(sorted([news[place] for place in lot])) for lot in lots]
    return (tuple([stamps[old] for old in order]), tuple(sorted(moved)),
            mark if mark < 0 else news[mark])


def swapped(lots, one, other):
    """The lots where two copies have taken each other's places."""
    news = {one: other, other: one}
    return tuple(sorted([tuple(sorted([news.get(place, place) for place in lot]))
                         for lot in lots]))


def are_even(standing, one, other):
    """Whether two copies may take each other's places and nothing is another one."""
    stamps, lots, mark = standing
    return (stamps[one] == stamps[other] and mark != one and mark != other
            and swapped(lots, one, other) == lots)


def first_evens(standing):
    """For each place the first one that is even with it, perhaps itself."""
    firsts = []
    for place in range(len(standing[0])):
        evens = [first for first in sorted(set(firsts)) if are_even(standing, first, place)]
        firsts.append(evens[0] if evens else place)
    return firsts


def told_lots(lots, order):
    """How the lots begin where just the first copies of an order are told.

    Each lot is cut at its first copy that is not told; behind the first lot that is cut
    nothing is sure. Of two orders, the one for which this is less gives the lesser lots.
    """
    many = len(order)
    news = {}
    for new, old in enumerate(order):
        news[old] = new
    told = []
    for lot in lots:
        known = sorted([news[place] for place in lot if place in news])
        told.append(tuple(known) if len(known) == len(lot) else tuple(known + [many]))
    told = sorted(told)
    cut = [at for at, lot in enumerate(told) if many in lot]
    return told[:cut[0] + 1] if cut else told


def longer_orders(standing, order, stamp, firsts):
    """An order with each copy of a stamp that may come next; of even ones the first alone."""
    stamps = standing[0]
    longer = []
    taken = {}
    for place in range(len(stamps)):
        if stamps[place] == stamp and place not in order and firsts[place] not in taken:
            taken[firsts[place]] = True
            longer.append(order + (place,))
    return longer


def least_order(standing):
    """An order of the places that makes a standing plain."""
    stamps, lots, mark = standing
    firsts = first_evens(standing)
    orders = [()]
    for stamp in sorted(stamps):
        longer = [more for order in orders
                  for more in longer_orders(standing, order, stamp, firsts)]
        if len(longer) > 1:
            told = [told_lots(lots, order) for order in longer]
            least = min(told)
            longer = [order for at, order in enumerate(longer) if told[at] == least]
        orders = longer
    if mark < 0:
        return orders[0]
    return min(orders, key=lambda order: order.index(mark))


def near_order(standing):
    """An order that brings most standings that are alike to the same one, at little cost."""
    stamps, lots, mark = standing
    looks = []
    for place in range(len(stamps)):
        sizes = sorted([len(lot) for lot in lots if place in lot])
        looks.append((stamps[place], place == mark, sizes, place))
    return tuple([look[3] for look in sorted(looks)])


class Plains:
    """Plain standings; how standings become plain is worked out once for nearly alike ones."""

    def __init__(self):
        self.orders = {}

    def order(self, standing):
        """An order of the places that makes a standing plain."""
        near = near_order(standing)
        if len(set(standing[0])) == len(near):
            return near
        nearer = arranged(standing, near)
        if nearer not in self.orders:
            self.orders[nearer] = least_order(nearer)
        return tuple([near[place] for place in self.orders[nearer]])

    def plain(self, standing):
        return arranged(standing, self.order(standing))
