"""A notebook of cells in copies that meet, and what is gone where a look lies."""

from threecopies.books import Book, after_change, after_fork, after_join, check_look, look_at
from threecopies.checks import MOST_COPIES, check_number, is_between, is_integer
from threecopies.errors import BadLog, CopyError, Full, LastCopy, NoCell, NoCopy, NothingDone, NoValue
from threecopies.runs import compared, indexes_in

LETTERS = "abcdefghijklmnopqrstuvwxyz"
MOST_LETTERS = 8
MOST_VALUE = 1000000000
# What a word about two copies says of them the other way about.
TURNED = {"same": "same", "newer": "elder", "elder": "newer", "apart": "apart"}
# How many items the entry of a log has for each word, the word counted.
ENTRIES = {"write": 4, "fork": 2, "meet": 3, "join": 3, "lose": 2}


class Page:
    """What a copy bears, the sides of its cells, and the writes that it holds.

    Bit k of holds is set if write k is held. A page is never changed: a deed puts new pages in
    the place of old ones. So copies, deeds that may be taken back, and notebooks can share it.
    """

    def __init__(self, bears, sides, holds):
        self.bears = bears
        self.sides = sides
        self.holds = holds


class Notebook:
    """Copies of cells, each with its stamp by the book; the dict of pages is never changed."""

    def __init__(self, book, most):
        check_look(book)
        check_number(most, MOST_COPIES)
        self.book = book
        self.most = most
        self.pages = {0: Page(book.first, {}, 0)}
        self.forks = 0
        self.writes = 0
        self.deeds = []
        # What each deed found: all pages, or for a write just the stamp and the sides of the
        # cell; else each of many writes would keep all cells there were.
        self.befores = []
        self.told_lies = []

    def page_of(self, copy):
        if not is_integer(copy) or copy not in self.pages:
            raise NoCopy()
        return self.pages[copy]

    def pages_of(self, one, other):
        first = self.page_of(one)
        second = self.page_of(other)
        if one == other:
            raise NoCopy()
        return first, second

    def finish(self, deed, pages, before):
        """Only here, behind all that may fail, a deed changes the notebook."""
        self.deeds.append(deed)
        self.befores.append(before)
        self.pages = pages

    def listen(self, said, first, second):
        """Keep what a look said of two pages in mind if it is not true."""
        true = compared(first.holds, second.holds)
        if said != true:
            self.told_lies.append((len(self.deeds), said, true))

    def write(self, copy, cell, value):
        page = self.page_of(copy)
        check_cell(cell)
        check_value(value)
        bears = after_change(self.book, page.bears)
        written = Page(bears, {**page.sides, cell: (value,)}, page.holds | (1 << self.writes))
        self.finish(("write", copy, cell, value), {**self.pages, copy: written},
                    (page.bears, page.sides.get(cell, ())))
        self.writes += 1

    def fork(self, copy):
        page = self.page_of(copy)
        if len(self.pages) == self.most:
            raise Full()
        half, new_half = after_fork(self.book, page.bears)
        new = self.forks + 1
        pages = dict(self.pages)
        pages[copy] = Page(half, page.sides, page.holds)
        pages[new] = Page(new_half, page.sides, page.holds)
        self.finish(("fork", copy), pages, self.pages)
        self.forks = new
        return new

    def meet(self, one, other):
        first, second = self.pages_of(one, other)
        word = look_at(self.book, first.bears, second.bears)
        half, other_half = after_fork(self.book, after_join(self.book, first.bears, second.bears))
        pages = dict(self.pages)
        pages[one] = page_behind(half, word, first, second)
        pages[other] = page_behind(other_half, TURNED[word], second, first)
        self.listen(word, first, second)
        self.finish(("meet", one, other), pages, self.pages)
        return word

    def join(self, one, other):
        first, second = self.pages_of(one, other)
        word = look_at(self.book, first.bears, second.bears)
        bears = after_join(self.book, first.bears, second.bears)
        pages = dict(self.pages)
        pages[one] = page_behind(bears, word, first, second)
        del pages[other]
        self.listen(word, first, second)
        self.finish(("join", one, other), pages, self.pages)
        return word

    def lose(self, copy):
        self.page_of(copy)
        if len(self.pages) == 1:
            raise LastCopy()
        pages = dict(self.pages)
        del pages[copy]
        self.finish(("lose", copy), pages, self.pages)

    def read(self, copy, cell):
        page = self.page_of(copy)
        check_cell(cell)
        return page.sides.get(cell, ())

    def cells(self, copy):
        sides = self.page_of(copy).sides
        return {cell: sides[cell] for cell in sorted(sides)}

    def copies(self):
        return tuple(sorted(self.pages))

    def stamp(self, copy):
        return self.page_of(copy).bears

    def held(self, copy):
        return indexes_in(self.page_of(copy).holds)

    def gone(self):
        missed = (1 << self.writes) - 1
        for page in self.pages.values():
            missed &= ~page.holds
        return indexes_in(missed)

    def lies(self):
        return list(self.told_lies)

    def unwrite(self, copy, cell, before):
        """Put the page in its place that the last write found."""
        bears, old = before
        page = self.pages[copy]
        sides = dict(page.sides)
        if old == ():
            del sides[cell]
        else:
            sides[cell] = old
        self.writes -= 1
        found = Page(bears, sides, page.holds ^ (1 << self.writes))
        self.pages = {**self.pages, copy: found}

    def back(self):
        if not self.deeds:
            raise NothingDone()
        deed = self.deeds.pop()
        before = self.befores.pop()
        if deed[0] == "write":
            self.unwrite(deed[1], deed[2], before)
        else:
            self.pages = before
        if deed[0] == "fork":
            self.forks -= 1
        if self.told_lies and self.told_lies[-1][0] == len(self.deeds):
            self.told_lies.pop()

    def copy(self):
        note = Notebook(self.book, self.most)
        note.pages = self.pages
        note.forks = self.forks
        note.writes = self.writes
        note.deeds = list(self.deeds)
        note.befores = list(self.befores)
        note.told_lies = list(self.told_lies)
        return note

    def log(self):
        return list(self.deeds)


def check_cell(thing):
    if not isinstance(thing, str) or not 1 <= len(thing) <= MOST_LETTERS:
        raise NoCell()
    if not all([sign in LETTERS for sign in thing]):
        raise NoCell()


def check_value(thing):
    if not is_between(thing, 0, MOST_VALUE):
        raise NoValue()


def both_sides(sides, others):
    """Cell by cell the sides of both."""
    both = dict(sides)
    for cell in others:
        both[cell] = tuple(sorted(set(sides.get(cell, ())) | set(others[cell])))
    return both


def page_behind(bears, word, page, other):
    """The page of a copy, with a new stamp, behind a look at another one that said the word."""
    if word == "elder":
        return Page(bears, other.sides, other.holds)
    if word == "apart":
        return Page(bears, both_sides(page.sides, other.sides), page.holds | other.holds)
    return Page(bears, page.sides, page.holds)


def is_entry(thing):
    """Whether a thing has the form of a deed, whatever its items but the word are."""
    if not isinstance(thing, tuple) or not thing or not isinstance(thing[0], str):
        return False
    return thing[0] in ENTRIES and len(thing) == ENTRIES[thing[0]]


def redo(note, deed):
    word = deed[0]
    if word == "write":
        note.write(deed[1], deed[2], deed[3])
    elif word == "fork":
        note.fork(deed[1])
    elif word == "meet":
        note.meet(deed[1], deed[2])
    elif word == "join":
        note.join(deed[1], deed[2])
    else:
        note.lose(deed[1])


def check_log(thing, most):
    if not isinstance(thing, list):
        raise BadLog(-1)
    # No book has a say in what can be done. On this one no functions are called that were
    # handed in; so each error tells of the log.
    trial = Notebook(Book(0, (0,), ((0, 0),), ((0,),), (("same",),)), most)
    for index, deed in enumerate(thing):
        if not is_entry(deed):
            raise BadLog(index)
        try:
            redo(trial, deed)
        except CopyError:
            raise BadLog(index) from None


def replayed(book, most, log):
    note = Notebook(book, most)
    check_log(log, most)
    for deed in log:
        redo(note, deed)
    return note
