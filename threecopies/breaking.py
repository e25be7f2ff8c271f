"""Runs that break every book as soon as four copies may live, or three that can be lost.

Nothing is searched: where copy 0 bears a stamp a second time, what is forked off it now bears
what was forked off it the first time, and no stamp tells which of the two is looked at.
"""

from threecopies.books import after_change, after_fork
from threecopies.checks import check_number, is_question, is_world
from threecopies.errors import NoQuestion, NoWorld
from threecopies.search import key_of

MOST_ROUNDS = 20000
# How many copies may live, and whether they are lost; the last is for the question alone only.
SORTS = ((4, False), (3, True), (2, True))


class Track:
    """A run in the making, of rounds as row_of tells them."""

    def __init__(self, world):
        self.pen = world[1] == "pen"
        self.losses = world[2]
        self.deeds = []
        self.forks = 0
        if not self.losses:
            self.fork(0)

    def change(self, copy):
        self.deeds.append(("change", copy))

    def fork(self, copy):
        """The number of the second half."""
        self.deeds.append(("fork", copy))
        self.forks += 1
        return self.forks

    def unite(self, copy, other):
        self.deeds.append(("join", copy, other))

    def drop(self, copy):
        if self.losses:
            self.deeds.append(("lose", copy))
        else:
            self.unite(1, copy)

    def part(self):
        """The first deeds of a round, up to the fork; the number of the second half."""
        if self.pen:
            self.change(0)
        return self.fork(0)

    def go(self, rounds):
        for _ in range(rounds):
            self.drop(self.part())

    def sight(self, copies):
        return tuple(self.deeds), copies


def check_sort(world):
    if not is_world(world) or world[1] == "trunk" or (world[0], world[2]) not in SORTS:
        raise NoWorld()


def is_asked(question, world):
    """Whether a question is one of those that are broken in this world."""
    if not is_question(question):
        return False
    most, kind, _ = world
    if question[0] == "alone":
        return most != 3
    if question[0] == "lots" or most == 2:
        return False
    same, newer, elder, apart = question[1:]
    if kind == "pen":
        return newer != elder
    return not same == newer == elder == apart


def walked_row(book, world, rounds):
    """The row, and the place where its last stamp came for the first time, or None."""
    stamp = book.first
    if not world[2]:
        stamp, _ = after_fork(book, stamp)
    row = [stamp]
    places = {key_of(stamp): 0}
    for at in range(rounds):
        if world[1] == "pen":
            stamp = after_change(book, stamp)
        stamp, _ = after_fork(book, stamp)
        row.append(stamp)
        key = key_of(stamp)
        if key in places:
            return row, places[key]
        places[key] = at + 1
    return row, None


def row_of(book, world, rounds):
    check_sort(world)
    check_number(rounds, MOST_ROUNDS)
    row, _ = walked_row(book, world, rounds)
    return tuple(row)


def lost_alone(world):
    one = Track(world)
    one.fork(0)
    other = Track(world)
    other.drop(other.fork(0))
    return one.sight((0,)), other.sight((0,))


def joined_alone(world, ahead, between):
    """Copy 0 and copy 1 are joined: nobody else lives, or one that takes the rounds between."""
    one = Track(world)
    one.go(ahead)
    one.unite(0, 1)
    other = Track(world)
    other.go(ahead)
    hidden = other.part()
    for _ in range(between):
        other.unite(hidden, other.part())
    other.unite(0, 1)
    return one.sight((0,)), other.sight((0,))


def pen_look(world, ahead, between, question):
    """Copy 0 beside its own second half, or beside one that is as many changes behind."""
    one = Track(world)
    one.go(ahead)
    half = one.part()
    other = Track(world)
    other.go(ahead)
    other.part()
    other.go(between)
    other.part()
    if question[1] != question[2]:
        return one.sight((0, half)), other.sight((0, half))
    return one.sight((half, 0)), other.sight((half, 0))


def free_look(world, ahead, between, question):
    """The two halves of a changed copy, or a half each of two that were changed apart."""
    same, newer, _, apart = question[1:]
    one = Track(world)
    one.go(ahead)
    first = one.part()
    one.change(first)
    second = one.fork(first)
    other = Track(world)
    other.go(ahead)
    other.part()
    other.change(first)
    other.drop(other.fork(first))
    other.go(between)
    late = other.part()
    other.drop(0)
    other.change(late)
    late_second = other.fork(late)
    if same == apart:
        # One more change makes the two halves newer and elder, and leaves the others apart.
        one.change(first)
        other.change(first)
    if newer != apart:
        return one.sight((first, second)), other.sight((first, late_second))
    return one.sight((second, first)), other.sight((late_second, first))


def broken(book, world, question, rounds):
    check_sort(world)
    if not is_asked(question, world):
        raise NoQuestion()
    check_number(rounds, MOST_ROUNDS)
    if world[0] == 2:
        return lost_alone(world)
    row, ahead = walked_row(book, world, rounds)
    if ahead is None:
        return None
    # The round whose second half is kept is one of those from a stamp to its coming again.
    between = len(row) - 2 - ahead
    if question[0] == "alone":
        return joined_alone(world, ahead, between)
    if world[1] == "pen":
        return pen_look(world, ahead, between, question)
    return free_look(world, ahead, between, question)
