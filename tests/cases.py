"""Books, questions and wrong things that several files of tests share."""

from tests.reference import KINDS, nested, odd_things, odd_tuples
from threecopies.books import Book, Rule

LOOK = ("look", 0, 1, 2, 3)
ALONE = ("alone",)
LOTS = ("lots",)
QUESTIONS = [LOOK, ALONE, LOTS, ("look", 0, 0, 0, 1), ("look", 2, 0, 2, 2), ("look", 3, 1, 1, 3)]
SMALL = [(most, kind, losses)
         for most in (1, 2, 3) for kind in KINDS for losses in (False, True)]
TWO = (2, "free", False)
# One stamp for all: the standings are all that can be known of the copies.
ONE = Book(0, (0,), ((0, 0),), ((0,),), (("same",),))
# Stamp 1: changed since the fork. Right for two copies.
PAIR = Book(0, (1, 1), ((0, 0), (0, 0)), ((0, 0), (0, 0)), (("same", "elder"), ("newer", "apart")))
NO_LOOK = Book(PAIR.first, PAIR.changes, PAIR.forks, PAIR.joins, None)


def counting_rule(looks=None):
    """A Rule that never says a stamp twice for long."""
    return Rule(0, lambda stamp: stamp + 1, lambda stamp: (stamp, stamp + 1),
                lambda one, other: one + other, looks)


def rule_of(book, name=lambda stamp: stamp, stamp_of=lambda name: name):
    """A Rule that says what a Book does, with other names for the stamps."""
    looks = None
    if book.looks is not None:
        def looks(one, other):
            return book.looks[stamp_of(one)][stamp_of(other)]

    def forks(stamp):
        one, other = book.forks[stamp_of(stamp)]
        return name(one), name(other)

    def joins(one, other):
        return name(book.joins[stamp_of(one)][stamp_of(other)])

    return Rule(name(book.first), lambda stamp: name(book.changes[stamp_of(stamp)]),
                forks, joins, looks)


NAMES = ((0, ("(1",)), ((0,), "(1"), 0, "0", (0,), ("0",), ((0,),), (), ((),), "(0", "(1", ("(0",),
         (0, (0,)), ((0,), 0), -1, "", ("",), (".0",), nested(tuple), (nested(tuple)[0],), (0, 0),
         ("0", 0), ("00",))


def odd_rule(book):
    """The same book in names that are easily taken for one another."""
    return rule_of(book, lambda stamp: NAMES[stamp], NAMES.index)


def wrong_questions():
    wrong = [(), ("look",), ("alone", 0), ("lots", ()), ["alone"], "alone", "lots", LOOK[:4],
             LOOK + (0,), ("look", 0, 1, 2, 4), ("look", 0, 1, 2, -1), ("look", True, 0, 0, 0),
             ("look", 0, 0, 0, False), ("look", "0", 0, 0, 0), ("look", (0,), 0, 0, 0),
             list(LOOK), ("Look", 0, 1, 2, 3), (0, 0, 1, 2, 3), ("same",), ("look", LOOK[1:]),
             ("alone", 0, 1, 2, 3), ("lots", 0, 1, 2, 3), (PAIR,), (PAIR, 0, 1, 2, 3),
             ("look", 0, 1, 2, 10 ** 999), ("look", 0, 1, 2, None), (["alone"],)]
    return wrong + odd_things() + odd_tuples()


def wrong_worlds():
    return [*odd_things(), *odd_tuples(), [2, "free", False], (8, "free", False),
            (0, "free", False), (True, "free", False), (2, "Free", False), (2, "free", 0),
            (2, "free"), (2, "free", False, 0), (2, ["free"], False)]
