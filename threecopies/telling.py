"""What stamps tell back: the truths they can mean, runs that bring them, and where books part."""

from threecopies.books import check_look, is_stamp
from threecopies.checks import check_world
from threecopies.errors import NoStamp, NoStamps
from threecopies.judging import places_of, sight
from threecopies.search import Ledger, row_spots, run_of, standing_spots
from threecopies.steps import word_between


class Couple:
    """Two books read side by side: each stamp is a pair of the numbers of theirs."""

    def __init__(self, one, other):
        self.one = Ledger(one)
        self.other = Ledger(other)
        self.first = (self.one.first, self.other.first)

    def changed(self, pair):
        return self.one.changed(pair[0]), self.other.changed(pair[1])

    def forked(self, pair):
        first, second = self.one.forked(pair[0])
        other_first, other_second = self.other.forked(pair[1])
        return (first, other_first), (second, other_second)

    def joined(self, pair, than):
        return self.one.joined(pair[0], than[0]), self.other.joined(pair[1], than[1])

    def parts(self, pair, than):
        """Whether the looks say unlike words of two copies."""
        return self.one.said(pair[0], than[0]) != self.other.said(pair[1], than[1])


def check_stamp(book, thing):
    if not is_stamp(book, thing):
        raise NoStamp()


def check_stamps(book, thing):
    if not isinstance(thing, tuple) or not all([is_stamp(book, stamp) for stamp in thing]):
        raise NoStamps()


def truths(book, world, one, other):
    check_world(world)
    check_stamp(book, one)
    check_stamp(book, other)
    ledger = Ledger(book)
    spots = standing_spots(ledger, world)
    asked = (ledger.number_of(one), ledger.number_of(other))
    words = []
    for spot in spots:
        stamps, lots, _ = spot.state
        words.extend([word_between(lots, first, second)
                      for first, second in places_of(len(stamps))
                      if (stamps[first], stamps[second]) == asked])
    return tuple(sorted(set(words)))


def run_to(book, world, stamps):
    check_world(world)
    check_stamps(book, stamps)
    ledger = Ledger(book)
    spots = standing_spots(ledger, world)
    numbers = [ledger.number_of(stamp) for stamp in stamps]
    if None in numbers:
        return None
    asked = tuple(sorted(numbers))
    for spot in spots:
        # The stamps of a plain standing are ascending.
        if spot.state[0] == asked:
            return run_of(spot)
    return None


def parting(one, other, world):
    check_look(one)
    check_look(other)
    check_world(world)
    couple = Couple(one, other)
    for spot in row_spots(couple, world):
        pairs, _ = spot.state
        for first, second in places_of(len(pairs)):
            if couple.parts(pairs[first], pairs[second]):
                return sight(spot, (first, second))
    return None
