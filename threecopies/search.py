"""All standings, and all rows of stamps, that a book brings in the runs of a world."""

from threecopies.books import Book, after_change, after_fork, after_join, look_at
from threecopies.errors import TooMany
from threecopies.plain import Plains, arranged
from threecopies.steps import first_mark, mark_behind, moves, row_behind, stamps_behind, standing_behind

MOST_STANDINGS = 20000
MOST_ROWS = 20000


def key_of(stamp):
    """What unlike stamps have unlike: the stamp, or the flat list of the parts of a tuple."""
    if not isinstance(stamp, tuple):
        return stamp
    parts = []
    waiting = [stamp]
    while waiting:
        part = waiting.pop()
        if isinstance(part, tuple):
            parts.append(f"({len(part)}")
            waiting.extend(part)
        elif isinstance(part, str):
            parts.append("." + part)
        else:
            parts.append(part)
    return tuple(parts)


class Ledger:
    """The stamps of a book as numbers; a stamp of a Book is its own number.

    A function of a Rule is asked once for the same stamps.
    """

    def __init__(self, book):
        self.book = book
        self.numbers = {}
        self.bearable = []
        self.changes = {}
        self.forks = {}
        self.joins = {}
        self.first = self.numbered(book.first)

    def numbered(self, stamp):
        if isinstance(self.book, Book):
            return stamp
        key = key_of(stamp)
        if key not in self.numbers:
            self.numbers[key] = len(self.bearable)
            self.bearable.append(stamp)
        return self.numbers[key]

    def stamp_of(self, number):
        return number if isinstance(self.book, Book) else self.bearable[number]

    def number_of(self, stamp):
        """The number of a stamp, or None for one of a Rule that came nowhere so far."""
        if isinstance(self.book, Book):
            return stamp
        return self.numbers.get(key_of(stamp))

    def changed(self, number):
        if number not in self.changes:
            self.changes[number] = self.numbered(after_change(self.book, self.stamp_of(number)))
        return self.changes[number]

    def forked(self, number):
        if number not in self.forks:
            one, other = after_fork(self.book, self.stamp_of(number))
            self.forks[number] = (self.numbered(one), self.numbered(other))
        return self.forks[number]

    def joined(self, one, other):
        if (one, other) not in self.joins:
            stamp = after_join(self.book, self.stamp_of(one), self.stamp_of(other))
            self.joins[one, other] = self.numbered(stamp)
        return self.joins[one, other]

    def said(self, one, other):
        return look_at(self.book, self.stamp_of(one), self.stamp_of(other))


class Spot:
    """A state of the living copies, their numbers, and the last deed of a run that brings it.

    A state is a tuple, the stamps of the copies first and the mark last.
    """

    def __init__(self, state, row, forks, before, deed):
        self.state = state
        self.row = row
        self.forks = forks
        self.before = before
        self.deed = deed


def run_of(spot):
    deeds = []
    while spot.before is not None:
        deeds.append(spot.deed)
        spot = spot.before
    return tuple(reversed(deeds))


def next_spot(spot, deed, state, order):
    """The spot behind a deed; order tells the places whose copies stand in the state."""
    row = spot.row
    done = (deed[0],) + tuple([row[place] for place in deed[1:]])
    forks = spot.forks + 1 if deed[0] == "fork" else spot.forks
    behind = row_behind(row, deed, forks)
    return Spot(state, tuple([behind[place] for place in order]), forks, spot, done)


def spread(begun, world, behind, most):
    """A spot for each state of a world, with a run of the fewest deeds, the fewest ahead.

    The function behind gives the state behind a state and a deed, and the order of its places.
    """
    found = [Spot(begun, (0,), 0, None, None)]
    known = {begun: True}
    at = 0
    while at < len(found):
        spot = found[at]
        at += 1
        for deed in moves(len(spot.row), spot.state[-1], world):
            state, order = behind(spot.state, deed)
            if state not in known:
                if len(found) == most:
                    raise TooMany(most)
                known[state] = True
                found.append(next_spot(spot, deed, state, order))
    return found


def standing_spots(ledger, world):
    """A spot for each plain standing."""
    plains = Plains()

    def behind(standing, deed):
        raw = standing_behind(ledger, standing, deed)
        order = plains.order(raw)
        return arranged(raw, order), order

    return spread(((ledger.first,), (), first_mark(world)), world, behind, MOST_STANDINGS)


def row_spots(ledger, world):
    """A spot for each row of the copies' stamps, in the order of their numbers, and its mark."""
    def behind(row, deed):
        stamps, mark = row
        stamps = stamps_behind(ledger, stamps, deed)
        return (stamps, mark_behind(mark, deed)), tuple(range(len(stamps)))

    return spread(((ledger.first,), first_mark(world)), world, behind, MOST_ROWS)
