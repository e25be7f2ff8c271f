"""A slow, plain account of a notebook by sets, written apart from the package: the whole of it
is worked out anew from the log each time."""

import random

from threecopies.books import Book

NAMES = {"write": 4, "fork": 2, "meet": 3, "join": 3, "lose": 2}


def asked(book, part, *stamps):
    told = getattr(book, part)
    if not isinstance(book, Book):
        return told(*stamps)
    for stamp in stamps:
        told = told[stamp]
    return told


class Account:
    """Copies as dicts of a stamp, a dict of sets of sides, and a set of writes."""

    def __init__(self, book, most, log=()):
        self.book = book
        self.most = most
        self.living = {0: {"stamp": book.first, "cells": {}, "held": set()}}
        self.forks = 0
        self.writes = 0
        self.lies = []
        self.log = []
        for deed in log:
            self.do(deed)

    def can(self, deed):
        """Whether a deed of the right form can be done."""
        copies = deed[1:2] if deed[0] == "write" else deed[1:]
        if any(copy not in self.living for copy in copies):
            return False
        if deed[0] == "fork":
            return len(self.living) < self.most
        if deed[0] == "lose":
            return len(self.living) > 1
        return deed[0] == "write" or deed[1] != deed[2]

    def do(self, deed):
        """Does a deed that can be done; its result."""
        result = getattr(self, "do_" + deed[0])(*deed[1:])
        self.log.append(deed)
        return result

    def do_write(self, copy, cell, value):
        mine = self.living[copy]
        mine["stamp"] = asked(self.book, "changes", mine["stamp"])
        mine["cells"][cell] = {value}
        mine["held"].add(self.writes)
        self.writes += 1

    def do_fork(self, copy):
        mine = self.living[copy]
        self.forks += 1
        halves = asked(self.book, "forks", mine["stamp"])
        mine["stamp"] = halves[0]
        self.living[self.forks] = {"stamp": halves[1],
                                   "cells": {cell: set(sides) for cell, sides in mine["cells"].items()},
                                   "held": set(mine["held"])}
        return self.forks

    def do_lose(self, copy):
        del self.living[copy]

    def look(self, one, other):
        """What the look says; lies are noted, and copies get what they get."""
        mine, theirs = self.living[one], self.living[other]
        word = asked(self.book, "looks", mine["stamp"], theirs["stamp"])
        more, less = mine["held"] - theirs["held"], theirs["held"] - mine["held"]
        true = "apart" if more and less else "newer" if more else "elder" if less else "same"
        if word != true:
            self.lies.append((len(self.log), word, true))
        sources = {"newer": [mine], "elder": [theirs], "apart": [mine, theirs], "same": []}[word]
        if sources:
            got = []
            for _ in range(2):
                cells = {}
                for source in sources:
                    for cell, sides in source["cells"].items():
                        cells.setdefault(cell, set()).update(sides)
                got.append((cells, set().union(*[source["held"] for source in sources])))
            (mine["cells"], mine["held"]), (theirs["cells"], theirs["held"]) = got
        return word, asked(self.book, "joins", mine["stamp"], theirs["stamp"])

    def do_meet(self, one, other):
        word, joined = self.look(one, other)
        halves = asked(self.book, "forks", joined)
        self.living[one]["stamp"], self.living[other]["stamp"] = halves
        return word

    def do_join(self, one, other):
        word, joined = self.look(one, other)
        del self.living[other]
        self.living[one]["stamp"] = joined
        return word

    def view(self):
        """All that a notebook can tell."""
        view = {"copies": tuple(sorted(self.living)), "lies": list(self.lies), "log": list(self.log)}
        gone = set(range(self.writes))
        for copy, mine in self.living.items():
            cells = {cell: tuple(sorted(sides)) for cell, sides in mine["cells"].items()}
            view[copy] = (mine["stamp"], cells, tuple(sorted(mine["held"])))
            gone -= mine["held"]
        view["gone"] = tuple(sorted(gone))
        return view


def view_of(note):
    """All that a notebook tells, by its methods."""
    view = {"copies": note.copies(), "lies": note.lies(), "log": note.log(), "gone": note.gone()}
    for copy in note.copies():
        view[copy] = (note.stamp(copy), note.cells(copy), note.held(copy))
    return view


def method_of(note, deed):
    """Does a deed by the method of its name."""
    return getattr(note, deed[0])(*deed[1:])


def random_deed(rng, account, losses=True):
    """A deed that can be done in an account."""
    while True:
        word = rng.choice(["write"] * 5 + ["fork"] * 4 + ["meet"] * 4 + ["join"] * 2 + ["lose"])
        copies = sorted(account.living)
        if word == "write":
            deed = (word, rng.choice(copies), rng.choice(["a", "b", "cell", "zzzzzzzz"]),
                    rng.choice([0, 1, 2, 10 ** 9]))
        elif word in ("meet", "join"):
            deed = (word, rng.choice(copies), rng.choice(copies))
        else:
            deed = (word, rng.choice(copies))
        if account.can(deed) and (losses or word != "lose"):
            return deed


def random_log(seed, book, most, length, losses=True):
    rng = random.Random(seed)
    account = Account(book, most)
    for _ in range(length):
        account.do(random_deed(rng, account, losses))
    return account.log
