"""Books of stamps, given as tables (Book) or as functions (Rule), and the stamps that copies bear."""

from threecopies.checks import WORDS, is_between, is_integer, is_tuple_of
from threecopies.errors import BadBook, NoLook, NoOrder
from threecopies.runs import check_two, herd_behind

MOST_STAMPS = 400
# Of a stamp of a Rule: in how many tuples a part of it may stand, and how many parts it may have.
MOST_DEEP = 30
MOST_PARTS = 100000


class Book:
    """A book as tables: its stamps are the integers from 0 on, below the length of changes."""

    def __init__(self, first, changes, forks, joins, looks):
        part = wrong_part(first, changes, forks, joins, looks)
        if part is not None:
            raise BadBook(part)
        self.first = first
        self.changes = changes
        self.forks = forks
        self.joins = joins
        self.looks = looks

    def __eq__(self, other):
        return (isinstance(other, Book) and self.first == other.first
                and self.changes == other.changes and self.forks == other.forks
                and self.joins == other.joins and self.looks == other.looks)


class Rule:
    """A book as functions. Nothing is checked; two Rules are equal only if they are one."""

    def __init__(self, first, changes, forks, joins, looks):
        self.first = first
        self.changes = changes
        self.forks = forks
        self.joins = joins
        self.looks = looks


def are_stamps(thing, length, many):
    return is_tuple_of(thing, length) and all([is_between(stamp, 0, many - 1) for stamp in thing])


def are_rows(thing, length, many):
    return is_tuple_of(thing, many) and all([are_stamps(row, length, many) for row in thing])


def are_words(thing, length):
    return is_tuple_of(thing, length) and all([word in WORDS for word in thing])


def are_looks(thing, many):
    return is_tuple_of(thing, many) and all([are_words(row, many) for row in thing])


def wrong_part(first, changes, forks, joins, looks):
    """The name of the first wrong part, or None."""
    # changes comes first: its length tells what a stamp is in all other parts.
    if not isinstance(changes, tuple) or not 1 <= len(changes) <= MOST_STAMPS:
        return "changes"
    many = len(changes)
    if not are_stamps(changes, many, many):
        return "changes"
    if not is_between(first, 0, many - 1):
        return "first"
    if not are_rows(forks, 2, many):
        return "forks"
    if not are_rows(joins, many, many):
        return "joins"
    if looks is not None and not are_looks(looks, many):
        return "looks"
    return None


def can_be_stamp(thing):
    """Whether a thing can be a stamp of a Rule."""
    waiting = [(thing, 0)]
    parts = 0
    while waiting:
        part, depth = waiting.pop()
        if isinstance(part, tuple):
            # Counted before they are gone into: a few tuples may hold one another so often
            # that going through all of it would never end.
            parts += len(part)
            if parts > MOST_PARTS or depth == MOST_DEEP and part != ():
                return False
            waiting.extend([(inner, depth + 1) for inner in part])
        elif not isinstance(part, str) and not is_integer(part):
            return False
    return True


def is_stamp(book, thing):
    """Whether a thing is a stamp of a Book, or can be one of a Rule."""
    if isinstance(book, Book):
        return is_between(thing, 0, len(book.changes) - 1)
    return can_be_stamp(thing)


def check_look(book):
    if book.looks is None:
        raise NoLook()


def after_change(book, stamp):
    if isinstance(book, Book):
        return book.changes[stamp]
    change = book.changes
    return change(stamp)


def after_fork(book, stamp):
    if isinstance(book, Book):
        return book.forks[stamp]
    fork = book.forks
    return fork(stamp)


def after_join(book, one, other):
    if isinstance(book, Book):
        return book.joins[one][other]
    join = book.joins
    return join(one, other)


def look_at(book, one, other):
    """What the look of a book with a look says of two stamps."""
    if isinstance(book, Book):
        return book.looks[one][other]
    look = book.looks
    return look(one, other)


def borne(book, run):
    """The dict from the living copies to their stamps, behind a run that can be done."""
    row = {0: book.first}
    forks = 0
    for deed in run:
        word = deed[0]
        copy = deed[1]
        if word == "change":
            row[copy] = after_change(book, row[copy])
        elif word == "fork":
            forks += 1
            row[copy], row[forks] = after_fork(book, row[copy])
        elif word == "join":
            other = row.pop(deed[2])
            row[copy] = after_join(book, row[copy], other)
        else:
            del row[copy]
    return row


def stamps(book, run, world):
    herd_behind(run, world)
    return borne(book, run)


def said(book, run, world, one, other):
    check_two(herd_behind(run, world), one, other)
    check_look(book)
    row = borne(book, run)
    return look_at(book, row[one], row[other])


def renamed(book, order):
    many = len(book.changes)
    if not are_stamps(order, many, many) or sorted(order) != list(range(many)):
        raise NoOrder()
    # The old stamps in the order of their new names.
    olds = [0] * many
    for old, new in enumerate(order):
        olds[new] = old
    changes = tuple([order[book.changes[old]] for old in olds])
    forks = tuple([(order[book.forks[old][0]], order[book.forks[old][1]]) for old in olds])
    joins = tuple([tuple([order[book.joins[one][two]] for two in olds]) for one in olds])
    looks = None
    if book.looks is not None:
        looks = tuple([tuple([book.looks[one][two] for two in olds]) for one in olds])
    return Book(order[book.first], changes, forks, joins, looks)
