"""Runs of copies: which deeds a world lets, which copies live, and what each of them knows."""

from threecopies.checks import check_world, is_integer
from threecopies.errors import NoCopies, NoCopy, NoRun, NotLet

# How many items the deed of each word has, the word counted.
LENGTHS = {"change": 2, "fork": 2, "join": 3, "lose": 2}


class Herd:
    """The living copies behind some deeds.

    What a copy knows is kept as one number: bit k is set if it knows deed k.
    """

    def __init__(self):
        self.knows = {0: 0}
        self.forks = 0
        # The copy that has the pen, kept in all worlds. A pen that is gone stays with its lost
        # copy: no other copy ever has this number.
        self.pen = 0

    def lets(self, deed, world):
        most, kind, losses = world
        word = deed[0]
        copy = deed[1]
        if not all([one in self.knows for one in deed[1:]]):
            return False
        if word == "change":
            return kind != "pen" or copy == self.pen
        if word == "fork":
            return len(self.knows) < most and (kind != "trunk" or copy == 0)
        if word == "join":
            return kind != "trunk" or copy == 0
        return losses and len(self.knows) > 1

    def do(self, deed, index):
        word = deed[0]
        copy = deed[1]
        if word == "change":
            self.knows[copy] |= 1 << index
        elif word == "fork":
            self.forks += 1
            self.knows[self.forks] = self.knows[copy]
        elif word == "join":
            self.unite(copy, deed[2])
        else:
            del self.knows[copy]

    def unite(self, copy, other):
        deeds = self.knows.pop(other)
        self.knows[copy] |= deeds
        if self.pen == other:
            self.pen = copy


def is_deed(thing):
    if not isinstance(thing, tuple) or not thing:
        return False
    word = thing[0]
    if not isinstance(word, str) or word not in LENGTHS or len(thing) != LENGTHS[word]:
        return False
    if not all([is_integer(copy) and copy >= 0 for copy in thing[1:]]):
        return False
    return word != "join" or thing[1] != thing[2]


def is_run(thing):
    return isinstance(thing, tuple) and all([is_deed(deed) for deed in thing])


def walked(run, world):
    """The herd behind the deeds ahead of the fault, and the fault, or None."""
    if not is_run(run):
        raise NoRun()
    check_world(world)
    herd = Herd()
    for index, deed in enumerate(run):
        if not herd.lets(deed, world):
            return herd, index
        herd.do(deed, index)
    return herd, None


def herd_behind(run, world):
    """The herd behind a run; the errors of a run and a world, in their order."""
    herd, index = walked(run, world)
    if index is not None:
        raise NotLet(index)
    return herd


def check_copy(herd, copy):
    if not is_integer(copy) or copy not in herd.knows:
        raise NoCopy()


def check_two(herd, one, other):
    check_copy(herd, one)
    check_copy(herd, other)
    if one == other:
        raise NoCopy()


def compared(one, other):
    """The true word about two copies, by the numbers that keep what they know."""
    both = one & other
    if one == other:
        return "same"
    if both == other:
        return "newer"
    if both == one:
        return "elder"
    return "apart"


def indexes_in(deeds):
    """The ascending tuple of the deeds that a number keeps, bit by bit."""
    return tuple([index for index in range(deeds.bit_length()) if deeds >> index & 1])


def lots_of(knows):
    """The lots among copies, by the list of the numbers that keep what they know."""
    every = 0
    for deeds in knows:
        every |= deeds
    # Parting the deeds copy by copy asks only for the lots that come, not for each deed.
    parts = [((), every)]
    for at, mine in enumerate(knows):
        inside = [(lot + (at,), deeds & mine) for lot, deeds in parts]
        outside = [(lot, deeds & ~mine) for lot, deeds in parts]
        parts = [part for part in inside + outside if part[1] != 0]
    return tuple(sorted([lot for lot, _ in parts if len(lot) < len(knows)]))


def fault(run, world):
    _, index = walked(run, world)
    return index


def living(run, world):
    return tuple(sorted(herd_behind(run, world).knows))


def known(run, world, copy):
    herd = herd_behind(run, world)
    check_copy(herd, copy)
    return indexes_in(herd.knows[copy])


def truth(run, world, one, other):
    herd = herd_behind(run, world)
    check_two(herd, one, other)
    return compared(herd.knows[one], herd.knows[other])


def lots(run, world, copies):
    herd = herd_behind(run, world)
    if not isinstance(copies, tuple) or not all([is_integer(copy) for copy in copies]):
        raise NoCopies()
    if sorted(copies) != sorted(herd.knows):
        raise NoCopies()
    return lots_of([herd.knows[copy] for copy in copies])
