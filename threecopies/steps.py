"""What a deed makes of a standing.

A deed here names copies by their places in a row of the living copies, not by their numbers;
the copy that comes of a fork takes the place behind all others, and behind a copy that goes
all others move up.
"""


def first_mark(world):
    return -1 if world[1] == "free" else 0


def moves(many, mark, world):
    """The deeds that a world lets where so many copies live."""
    most, kind, losses = world
    places = list(range(many))
    marked = [at for at in places if at == mark]
    changed = marked if kind == "pen" else places
    trunks = marked if kind == "trunk" else places
    deeds = [("change", at) for at in changed]
    if many < most:
        deeds = deeds + [("fork", at) for at in trunks]
    deeds = deeds + [("join", at, other) for at in trunks for other in places if at != other]
    if losses and many > 1:
        deeds = deeds + [("lose", at) for at in places]
    return deeds


def row_behind(row, deed, new):
    """The row of the living copies, or of what they bear; a fork puts new behind it."""
    if deed[0] == "fork":
        return row + (new,)
    if deed[0] == "change":
        return row
    gone = deed[-1]
    return row[:gone] + row[gone + 1:]


def mark_behind(mark, deed):
    if deed[0] == "change" or deed[0] == "fork":
        return mark
    gone = deed[-1]
    if mark == gone:
        if deed[0] == "lose":
            return -1
        mark = deed[1]
    return mark - 1 if mark > gone else mark


def stamps_behind(ledger, stamps, deed):
    at = deed[1]
    second = None
    if deed[0] == "change":
        stamp = ledger.changed(stamps[at])
    elif deed[0] == "fork":
        stamp, second = ledger.forked(stamps[at])
    elif deed[0] == "join":
        stamp = ledger.joined(stamps[at], stamps[deed[2]])
    else:
        stamp = stamps[at]
    return row_behind(stamps[:at] + (stamp,) + stamps[at + 1:], deed, second)


def lot_behind(lot, deed, many):
    """The lot of the copies that know a deed which a lot of so many knew."""
    at = deed[1]
    if deed[0] == "fork":
        return lot + (many,) if at in lot else lot
    gone = deed[-1]
    if deed[0] == "join" and gone in lot and at not in lot:
        lot = tuple(sorted(lot + (at,)))
    return tuple([place - 1 if place > gone else place for place in lot if place != gone])


def lots_behind(lots, deed, many):
    if deed[0] == "change":
        own = (deed[1],)
        if many == 1 or own in lots:
            return lots
        return tuple(sorted(lots + (own,)))
    left = many + 1 if deed[0] == "fork" else many - 1
    behind = {lot_behind(lot, deed, many) for lot in lots}
    return tuple([lot for lot in sorted(behind) if 0 < len(lot) < left])


def standing_behind(ledger, standing, deed):
    stamps, lots, mark = standing
    return (stamps_behind(ledger, stamps, deed), lots_behind(lots, deed, len(stamps)),
            mark_behind(mark, deed))


def word_between(lots, one, other):
    """The true word about two copies."""
    more = any([one in lot and other not in lot for lot in lots])
    less = any([other in lot and one not in lot for lot in lots])
    if more and less:
        return "apart"
    if more:
        return "newer"
    return "elder" if less else "same"
