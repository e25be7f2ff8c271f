"""Tests of [15]: notebooks against plain sets, taken back, copied, replayed and refused."""

import itertools
import random
import unittest

from tests.account import Account, method_of, random_deed, random_log, view_of
from tests.cases import NO_LOOK, ONE, PAIR, odd_rule, rule_of
from tests.reference import nested, odd_things, odd_tuples, random_book, tree_rule
from threecopies import errors
from threecopies.books import Book, Rule
from threecopies.errors import (BadLog, CopyError, Full, LastCopy, NoCell, NoCopy, NoLook, NoNumber,
                                NothingDone, NoValue)
from threecopies.makers import nine_book, sixteen_book, trunk_rule, twelve_book, two_book
from threecopies.notebook import Notebook, replayed

NO_CELLS = ["", "abcdefghi", "z" * 5000, "A", "aB", "a1", "a b", " a", "a\n", "\t", "~", "{", "`",
            "a_", "@", "[", ("a",), ["a"], {"a": "a"}, None, True, PAIR, 0, 1]
NO_VALUES = [-1, 10 ** 9 + 1, 10 ** 999, -10 ** 999, True, False, None, "0", "", (0,), [0], {0: 0},
             (), nested(tuple), PAIR, tree_rule()]
NO_COPIES = [-1, 1, 2, 7, 10 ** 999, True, False, None, "0", (0,), [0], {0: 0}, nested(list), PAIR,
             Notebook(ONE, 2)]


def saying(word):
    """A Book of one stamp whose look says one word, true or not."""
    return Book(0, (0,), ((0, 0),), ((0,),), ((word,),))


def noted(book, most, *deeds):
    note = Notebook(book, most)
    for deed in deeds:
        method_of(note, deed)
    return note


def books():
    """Books that tell the truth for long, books that lie, and Rules."""
    said = [saying(word) for word in ("same", "newer", "elder", "apart")]
    rules = [odd_rule(random_book(3, 9)), rule_of(nine_book()), trunk_rule(4),
             tree_rule(lambda one, other: ("same", "newer", "elder", "apart")[
                 (len(one) + 2 * len(other)) % 4])]
    return [PAIR, nine_book(), *said, *[random_book(seed, 4 + seed) for seed in range(4)], *rules]


def life(book, many):
    """How long a life may be: the stamps of the tree rule double with each join."""
    return 14 if book.first == "o" else many


class NotebookCase(unittest.TestCase):
    def refused(self, error, note, call):
        """A call that is refused by just this error, and changes nothing."""
        before = view_of(note)
        with self.assertRaises(CopyError) as caught:
            call(note)
        self.assertIs(type(caught.exception), error)
        self.assertEqual(view_of(note), before)


class TestByHand(NotebookCase):
    def test_at_first(self):
        for most in range(1, 8):
            for book in (PAIR, ONE, tree_rule(lambda one, other: "same")):
                note = Notebook(book, most)
                self.assertEqual(view_of(note), {"copies": (0,), "lies": [], "log": [], "gone": (),
                                                 0: (book.first, {}, ())})
                self.assertEqual(note.read(0, "a"), ())

    def test_write_and_read(self):
        note = Notebook(PAIR, 2)
        self.assertIsNone(note.write(0, "a", 5))
        self.assertIsNone(note.write(0, "zzzzzzzz", 0))
        self.assertIsNone(note.write(0, "b", 10 ** 9))
        self.assertEqual(note.read(0, "a"), (5,))
        self.assertEqual(note.read(0, "zzzzzzzz"), (0,))
        self.assertEqual(note.read(0, "c"), ())
        self.assertEqual(note.cells(0), {"a": (5,), "zzzzzzzz": (0,), "b": (10 ** 9,)})
        self.assertEqual(note.stamp(0), 1)
        self.assertEqual(note.held(0), (0, 1, 2))
        note.write(0, "a", 5)
        self.assertEqual(note.read(0, "a"), (5,))
        self.assertEqual(note.held(0), (0, 1, 2, 3))
        self.assertEqual(note.gone(), ())

    def test_fork(self):
        note = noted(PAIR, 3, ("write", 0, "a", 1))
        self.assertEqual(note.fork(0), 1)
        self.assertEqual([note.cells(copy) for copy in (0, 1)], [{"a": (1,)}] * 2)
        self.assertEqual([note.held(copy) for copy in (0, 1)], [(0,), (0,)])
        self.assertEqual(note.fork(1), 2)
        note.write(2, "a", 3)
        note.write(0, "b", 4)
        self.assertEqual([note.cells(copy) for copy in note.copies()],
                         [{"a": (1,), "b": (4,)}, {"a": (1,)}, {"a": (3,)}])
        self.assertEqual([note.held(copy) for copy in note.copies()], [(0, 2), (0,), (0, 1)])

    def test_numbers_of_copies_go_on(self):
        note = noted(PAIR, 2, ("fork", 0), ("lose", 0))
        self.assertEqual(note.fork(1), 2)
        note.join(2, 1)
        self.assertEqual(note.fork(2), 3)
        self.assertEqual(note.copies(), (2, 3))
        note.meet(2, 3)
        self.assertEqual(note.copies(), (2, 3))
        note.lose(2)
        self.assertEqual(note.fork(3), 4)

    def test_each_word_of_a_meet(self):
        """Copy 0 writes a, copy 1 writes a and b; then they meet."""
        deeds = [("fork", 0), ("write", 0, "a", 2), ("write", 1, "a", 1), ("write", 1, "b", 2)]
        due = {"same": ({"a": (2,)}, {"a": (1,), "b": (2,)}, (0,), (1, 2)),
               "newer": ({"a": (2,)}, {"a": (2,)}, (0,), (0,)),
               "elder": ({"a": (1,), "b": (2,)}, {"a": (1,), "b": (2,)}, (1, 2), (1, 2)),
               "apart": ({"a": (1, 2), "b": (2,)}, {"a": (1, 2), "b": (2,)}, (0, 1, 2), (0, 1, 2))}
        gone = {"same": (), "newer": (1, 2), "elder": (0,), "apart": ()}
        for word, (cells, others, held, other_held) in due.items():
            note = noted(saying(word), 2, *deeds)
            self.assertEqual(note.meet(0, 1), word)
            self.assertEqual([note.cells(0), note.cells(1)], [cells, others])
            self.assertEqual([note.held(0), note.held(1)], [held, other_held])
            self.assertEqual(note.gone(), gone[word])
            self.assertEqual(note.lies(), [] if word == "apart" else [(4, word, "apart")])
            self.assertEqual(note.log(), deeds + [("meet", 0, 1)])
            note = noted(saying(word), 2, *deeds)
            self.assertEqual(note.join(0, 1), word)
            self.assertEqual(note.copies(), (0,))
            self.assertEqual([note.cells(0), note.held(0)], [cells, held])
            self.assertEqual(note.gone(), tuple(sorted({0, 1, 2} - set(held))))
            self.assertEqual(note.lies(), [] if word == "apart" else [(4, word, "apart")])
            note = noted(saying(word), 2, *deeds)
            self.assertEqual(note.join(1, 0), word)
            other = {"newer": "elder", "elder": "newer"}.get(word, word)
            self.assertEqual(note.copies(), (1,))
            self.assertEqual([note.cells(1), note.held(1)], [due[other][1], due[other][3]])

    def test_cells_that_are_empty_are_got_too(self):
        """Who gets all cells loses those that the other one has not."""
        note = noted(saying("newer"), 2, ("fork", 0), ("write", 1, "a", 1))
        note.meet(0, 1)
        self.assertEqual([note.cells(0), note.cells(1)], [{}, {}])
        self.assertEqual(note.read(1, "a"), ())
        self.assertEqual(note.gone(), (0,))

    def test_sides_come_once_and_ascend(self):
        note = noted(saying("apart"), 3, ("write", 0, "a", 5), ("fork", 0), ("fork", 0),
                     ("write", 1, "a", 10 ** 9), ("write", 2, "a", 0))
        note.meet(0, 1)
        self.assertEqual(note.read(0, "a"), (5, 10 ** 9))
        note.meet(1, 2)
        self.assertEqual(note.read(1, "a"), (0, 5, 10 ** 9))
        note.meet(0, 2)
        self.assertEqual(note.read(0, "a"), (0, 5, 10 ** 9))
        note.write(0, "a", 7)
        self.assertEqual(note.read(0, "a"), (7,))
        self.assertEqual(note.read(2, "a"), (0, 5, 10 ** 9))

    def test_stamps_of_a_meet(self):
        """The halves of the fork of the join, the first one's for the one."""
        rule = tree_rule(lambda one, other: "same")
        left, right = ("fork 0", "o"), ("fork 1", "o")
        for one, other, joined in ((0, 1, ("join", left, right)), (1, 0, ("join", right, left))):
            note = noted(rule, 2, ("fork", 0), ("meet", one, other))
            self.assertEqual(note.stamp(one), ("fork 0", joined))
            self.assertEqual(note.stamp(other), ("fork 1", joined))
            note = noted(rule, 2, ("fork", 0), ("join", one, other))
            self.assertEqual(note.stamp(one), joined)

    def test_stamps_are_those_of_a_book(self):
        book = random_book(5, 6)
        note = noted(book, 2, ("write", 0, "a", 1), ("fork", 0), ("write", 1, "a", 1))
        stamp = book.changes[book.first]
        one, other = book.forks[stamp]
        other = book.changes[other]
        self.assertEqual([note.stamp(0), note.stamp(1)], [one, other])
        self.assertEqual(note.meet(1, 0), book.looks[other][one])
        joined = book.joins[other][one]
        self.assertEqual([note.stamp(1), note.stamp(0)], list(book.forks[joined]))

    def test_the_look_is_asked_the_right_way_about(self):
        told = []

        def look(one, other):
            told.append((one, other))
            return "same"
        note = noted(tree_rule(look), 2, ("fork", 0), ("meet", 1, 0), ("join", 0, 1))
        pair = (("fork 1", "o"), ("fork 0", "o"))
        joined = ("join", *pair)
        self.assertEqual(told, [pair, (("fork 1", joined), ("fork 0", joined))])
        self.assertEqual(note.copies(), (0,))

    def test_lose(self):
        note = noted(PAIR, 3, ("fork", 0), ("write", 1, "a", 1), ("write", 0, "b", 2))
        self.assertIsNone(note.lose(1))
        self.assertEqual(note.copies(), (0,))
        self.assertEqual(note.gone(), (0,))
        self.assertEqual(note.held(0), (1,))

    def test_lies(self):
        """Deeds of all sorts are counted; what is true goes by what is held, not by cells."""
        note = noted(saying("newer"), 3, ("fork", 0), ("write", 0, "a", 1), ("meet", 0, 1),
                     ("meet", 0, 1), ("meet", 1, 0), ("write", 1, "a", 1), ("meet", 0, 1),
                     ("fork", 0), ("join", 2, 1), ("write", 0, "b", 1), ("join", 2, 0))
        self.assertEqual(note.lies(), [(3, "newer", "same"), (4, "newer", "same"),
                                       (6, "newer", "elder"), (8, "newer", "same"),
                                       (10, "newer", "elder")])
        self.assertEqual(note.gone(), (1, 2))

    def test_same_cells_do_not_make_the_same(self):
        """Both write alike, and yet each holds a write of its own."""
        note = noted(saying("same"), 2, ("fork", 0), ("write", 0, "a", 1), ("write", 1, "a", 1),
                     ("meet", 0, 1))
        self.assertEqual(note.cells(0), note.cells(1))
        self.assertEqual(note.lies(), [(3, "same", "apart")])

    def test_words_that_are_true_are_no_lies(self):
        for word, deeds in (("same", []), ("newer", [("write", 0, "a", 1)]),
                            ("elder", [("write", 1, "a", 1)]),
                            ("apart", [("write", 0, "a", 1), ("write", 1, "a", 1)])):
            for deed in (("meet", 0, 1), ("join", 0, 1)):
                note = noted(saying(word), 2, ("fork", 0), *deeds, deed)
                self.assertEqual(note.lies(), [])
                self.assertEqual(note.gone(), ())


class TestLives(NotebookCase):
    def live(self, book, most, seed, length, losses=True):
        """A longer life, told behind each deed by a notebook and an account."""
        rng = random.Random(seed)
        note, account = Notebook(book, most), Account(book, most)
        views = [account.view()]
        for _ in range(length):
            deed = random_deed(rng, account, losses)
            self.assertEqual(method_of(note, deed), account.do(deed))
            views.append(account.view())
            self.assertEqual(view_of(note), views[-1])
        return note, views

    def test_against_plain_sets(self):
        for seed, book in enumerate(books()):
            for most in (1, 2, 3, 4, 7):
                with self.subTest(seed=seed, most=most):
                    self.live(book, most, seed, life(book, 150))

    def test_back_to_the_beginning(self):
        for seed, book in enumerate(books()):
            with self.subTest(seed=seed):
                note, views = self.live(book, 3, seed + 50, life(book, 80))
                for view in reversed(views[:-1]):
                    self.assertIsNone(note.back())
                    self.assertEqual(view_of(note), view)
                self.refused(NothingDone, note, Notebook.back)

    def test_back_and_on(self):
        """Copies, writes and deeds are numbered as if what was taken back had never been."""
        for seed, book in enumerate(books()[:10]):
            rng = random.Random(seed)
            note, account = Notebook(book, 3), Account(book, 3)
            for _ in range(120):
                if account.log and rng.random() < 0.4:
                    note.back()
                    account = Account(book, 3, account.log[:-1])
                else:
                    deed = random_deed(rng, account)
                    self.assertEqual(method_of(note, deed), account.do(deed))
                self.assertEqual(view_of(note), account.view())

    def test_back_of_each_deed(self):
        note = noted(PAIR, 2, ("write", 0, "a", 1))
        view = view_of(note)
        for deeds in [[("write", 0, "a", 2)], [("write", 0, "b", 2)], [("write", 0, "a", 1)],
                      [("fork", 0)], [("fork", 0), ("lose", 0)], [("fork", 0), ("lose", 1)],
                      [("fork", 0), ("meet", 0, 1)], [("fork", 0), ("join", 1, 0)],
                      [("fork", 0), ("write", 1, "a", 3), ("meet", 0, 1), ("write", 0, "a", 4)]]:
            for deed in deeds:
                method_of(note, deed)
            for _ in deeds:
                self.assertIsNone(note.back())
            self.assertEqual(view_of(note), view)
            self.assertEqual(note.read(0, "b"), ())
        self.assertEqual(note.fork(0), 1)

    def test_copy_goes_on_apart(self):
        for seed, book in enumerate(books()[:10]):
            rng = random.Random(seed)
            log = random_log(seed, book, 3, 30)
            note = replayed(book, 3, log)
            twin = note.copy()
            self.assertIsInstance(twin, Notebook)
            accounts = [Account(book, 3, log), Account(book, 3, log)]
            self.assertEqual(view_of(twin), accounts[0].view())
            for _ in range(80):
                at = rng.randrange(2)
                if accounts[at].log and rng.random() < 0.55:
                    (note, twin)[at].back()
                    accounts[at] = Account(book, 3, accounts[at].log[:-1])
                else:
                    deed = random_deed(rng, accounts[at])
                    self.assertEqual(method_of((note, twin)[at], deed), accounts[at].do(deed))
                self.assertEqual(view_of(note), accounts[0].view())
                self.assertEqual(view_of(twin), accounts[1].view())

    def test_copy_takes_back_all(self):
        log = random_log(9, PAIR, 3, 40)
        twin = replayed(PAIR, 3, log).copy().copy()
        for at in reversed(range(40)):
            twin.back()
            self.assertEqual(twin.log(), log[:at])
        self.refused(NothingDone, twin, Notebook.back)
        self.refused(Full, noted(PAIR, 1).copy(), lambda note: note.fork(0))

    def test_books_whose_look_is_the_truth(self):
        """There are no lies, and without losses nothing is ever gone."""
        for book, most in ((two_book(), 2), (nine_book(), 3), (twelve_book(), 3),
                           (sixteen_book(), 3)):
            for seed in range(6):
                note = replayed(book, most, random_log(seed, book, most, 150, losses=False))
                self.assertEqual((note.lies(), note.gone()), ([], ()))
        gone = []
        for seed in range(6):
            note = replayed(two_book(), 2, random_log(seed, two_book(), 2, 150))
            self.assertEqual(note.lies(), [])
            gone.extend(note.gone())
        self.assertNotEqual(gone, [])

    def test_a_lying_book_loses_something(self):
        notes = [replayed(PAIR, 3, random_log(seed, PAIR, 3, 80, losses=False))
                 for seed in range(6)]
        self.assertTrue(any(note.lies() for note in notes))
        self.assertTrue(any(note.gone() for note in notes))

    def test_what_is_returned_is_new(self):
        note = noted(saying("newer"), 3, ("write", 0, "a", 1), ("fork", 0), ("meet", 0, 1))
        view = view_of(note)
        for _ in range(2):
            note.log().append(("fork", 0))
            note.log().clear()
            note.lies().clear()
            note.cells(0)["a"] = (7,)
            note.cells(0).clear()
            self.assertEqual(view_of(note), view)
        for told, kind in ((note.log(), list), (note.lies(), list), (note.cells(0), dict),
                           (note.copies(), tuple), (note.held(0), tuple), (note.gone(), tuple),
                           (note.read(0, "a"), tuple)):
            self.assertIs(type(told), kind)
        self.assertTrue(all(type(row) is tuple for row in note.log() + note.lies()))

    def test_a_copy_shares_nothing_that_is_returned(self):
        note = noted(saying("newer"), 3, ("write", 0, "a", 1), ("fork", 0), ("meet", 0, 1))
        twin = note.copy()
        twin.log().clear()
        twin.cells(1).clear()
        twin.lies().clear()
        self.assertEqual(view_of(twin), view_of(note))

    def test_long_lives(self):
        """Many writes, each to a cell of its own, and all taken back."""
        def name(number):
            return "".join(chr(97 + number // 26 ** place % 26) for place in range(4))
        log = [("write", 0, name(number), number) for number in range(4000)]
        note = replayed(PAIR, 2, log)
        self.assertEqual(len(note.cells(0)), 4000)
        self.assertEqual(note.held(0), tuple(range(4000)))
        for _ in log:
            note.back()
        self.assertEqual(note.cells(0), {})
        log = [("fork", 0), ("write", 0, "a", 1), ("join", 0, 1)] * 3000
        log = [(deed[0], 0, index // 3 + 1) if deed[0] == "join" else deed
               for index, deed in enumerate(log)]
        note = replayed(PAIR, 2, log)
        self.assertEqual(note.held(0), tuple(range(3000)))
        self.assertEqual(note.lies(), [])
        self.assertEqual(note.fork(0), 3001)
        self.assertEqual(view_of(replayed(PAIR, 2, note.log())), view_of(note))


class TestRefused(NotebookCase):
    def notes(self):
        for book in (PAIR, saying("apart"), rule_of(nine_book())):
            note = Notebook(book, 1)
            yield note
            note.write(0, "a", 1)
            yield note

    def test_no_look(self):
        for book in (NO_LOOK, tree_rule(), Book(0, (0,), ((0, 0),), ((0,),), None)):
            for most in (1, 7, 0, 8, None, True, "3"):
                self.assertRaises(NoLook, Notebook, book, most)
                self.assertRaises(NoLook, replayed, book, most, [])
                self.assertRaises(NoLook, replayed, book, most, None)

    def test_no_number(self):
        for thing in [0, 8, -1, "1", (1,), [1], *odd_things(), *odd_tuples()]:
            for book in (PAIR, rule_of(PAIR)):
                self.assertRaises(NoNumber, Notebook, book, thing)
                self.assertRaises(NoNumber, replayed, book, thing, [])
                self.assertRaises(NoNumber, replayed, book, thing, None)

    def test_no_copy(self):
        calls = [lambda note, copy: note.write(copy, "a", 1), lambda note, copy: note.fork(copy),
                 lambda note, copy: note.meet(copy, 0), lambda note, copy: note.meet(0, copy),
                 lambda note, copy: note.join(copy, 0), lambda note, copy: note.join(0, copy),
                 lambda note, copy: note.lose(copy), lambda note, copy: note.read(copy, "a"),
                 lambda note, copy: note.cells(copy), lambda note, copy: note.stamp(copy),
                 lambda note, copy: note.held(copy), lambda note, copy: note.write(copy, None, None),
                 lambda note, copy: note.read(copy, None), lambda note, copy: note.meet(copy, copy),
                 lambda note, copy: note.join(copy, copy)]
        for note in self.notes():
            for call in calls:
                for thing in NO_COPIES + odd_things() + odd_tuples():
                    self.refused(NoCopy, note, lambda told: call(told, thing))

    def test_no_copy_that_was_once(self):
        note = noted(PAIR, 3, ("fork", 0), ("fork", 0), ("lose", 1), ("join", 2, 0))
        for copy in (0, 1, 3):
            for deed in (("write", copy, "a", 1), ("fork", copy), ("meet", 2, copy), ("lose", copy),
                         ("meet", copy, 2), ("join", 2, copy), ("join", copy, 2), ("stamp", copy),
                         ("held", copy), ("read", copy, "a"), ("cells", copy)):
                self.refused(NoCopy, note, lambda told: method_of(told, deed))

    def test_the_other_copy_is_the_one(self):
        note = noted(PAIR, 3, ("fork", 0))
        for copy in (0, 1):
            self.refused(NoCopy, note, lambda told: told.meet(copy, copy))
            self.refused(NoCopy, note, lambda told: told.join(copy, copy))

    def test_no_cell(self):
        things = NO_CELLS + [thing for thing in odd_things() + odd_tuples()
                             if thing not in ("free", "change")]
        for note in self.notes():
            for thing in things:
                self.refused(NoCell, note, lambda told: told.write(0, thing, 1))
                self.refused(NoCell, note, lambda told: told.write(0, thing, None))
                self.refused(NoCell, note, lambda told: told.read(0, thing))

    def test_each_letter_makes_a_cell(self):
        note = Notebook(PAIR, 1)
        for cell in [*"abcdefghijklmnopqrstuvwxyz", "az", "abcdefgh", "zzzzzzzz"]:
            note.write(0, cell, 3)
            self.assertEqual(note.read(0, cell), (3,))

    def test_no_value(self):
        things = NO_VALUES + [thing for thing in odd_things() + odd_tuples()
                              if type(thing) is not int or not 0 <= thing <= 10 ** 9]
        for note in self.notes():
            for thing in things:
                self.refused(NoValue, note, lambda told: told.write(0, "a", thing))

    def test_full(self):
        for most in range(1, 8):
            for book in (PAIR, rule_of(PAIR)):
                note = Notebook(book, most)
                for copy in range(1, most):
                    self.assertEqual(note.fork(0), copy)
                for copy in range(most):
                    self.refused(Full, note, lambda told: told.fork(copy))
                self.refused(NoCopy, note, lambda told: told.fork(most))
                if most > 1:
                    note.lose(0)
                    self.assertEqual(note.fork(1), most)
                    self.refused(Full, note, lambda told: told.fork(1))
                    note.meet(1, most)
                    note.join(1, most)
                    self.assertEqual(note.fork(1), most + 1)

    def test_last_copy(self):
        note = noted(PAIR, 2)
        self.refused(LastCopy, note, lambda told: told.lose(0))
        note.fork(0)
        note.lose(0)
        self.refused(LastCopy, note, lambda told: told.lose(1))
        self.refused(NoCopy, note, lambda told: told.lose(0))

    def test_nothing_done(self):
        note = Notebook(PAIR, 2)
        self.refused(NothingDone, note, Notebook.back)
        note.fork(0)
        note.back()
        self.refused(NothingDone, note, Notebook.back)
        self.refused(NothingDone, note.copy(), Notebook.back)
        self.refused(NothingDone, replayed(PAIR, 2, []), Notebook.back)

    def test_errors_of_functions_go_on_and_change_nothing(self):
        """Each function in turn raises, behind a write that goes well."""
        def boom(*_):
            raise ZeroDivisionError()

        def refused(*_):
            raise Full()
        parts = [lambda stamp: stamp, lambda stamp: (stamp, stamp), lambda one, other: one,
                 lambda one, other: "apart"]
        hit = {0: ["write"], 1: ["fork", "meet"], 2: ["meet", "join"], 3: ["meet", "join"]}
        for at, (error, raising) in itertools.product(
                range(4), ((ZeroDivisionError, boom), (Full, refused))):
            spoilt = parts[:at] + [raising] + parts[at + 1:]
            rule = Rule(0, *parts)
            note = Notebook(rule, 3)
            for deed in (("write", 0, "a", 1), ("fork", 0), ("write", 1, "a", 2)):
                method_of(note, deed)
            rule.changes, rule.forks, rule.joins, rule.looks = spoilt
            before = view_of(note)
            for deed in (("write", 0, "a", 3), ("fork", 0), ("meet", 0, 1), ("join", 1, 0)):
                if deed[0] in hit[at]:
                    with self.assertRaises(error):
                        method_of(note, deed)
                else:
                    method_of(note, deed)
                    note.back()
                self.assertEqual(view_of(note), before)


class TestReplayed(NotebookCase):
    def check_bad(self, log, index, book=PAIR, most=3):
        with self.assertRaises(BadLog) as caught:
            replayed(book, most, log)
        self.assertIs(type(caught.exception), BadLog)
        self.assertEqual(caught.exception.index, index)

    def test_logs(self):
        for seed, book in enumerate(books()):
            for most in (1, 3, 7):
                log = random_log(seed, book, most, life(book, 60))
                note = replayed(book, most, log)
                self.assertEqual(view_of(note), Account(book, most, log).view())
                self.assertEqual(view_of(replayed(book, most, note.log())), view_of(note))

    def test_the_empty_log(self):
        self.assertEqual(view_of(replayed(PAIR, 3, [])), view_of(Notebook(PAIR, 3)))

    def test_what_is_replayed_goes_on_and_back(self):
        log = random_log(1, PAIR, 3, 30)
        note = replayed(PAIR, 3, log)
        for at in reversed(range(30)):
            note.back()
            self.assertEqual(view_of(note), Account(PAIR, 3, log[:at]).view())
        self.assertEqual(note.fork(0), 1)

    def test_a_log_that_is_changed_later(self):
        log = [("fork", 0), ("write", 1, "a", 3)]
        note = replayed(PAIR, 3, log)
        view = view_of(note)
        log[0] = None
        log.append(("fork", 0))
        self.assertEqual(view_of(note), view)
        log = [("fork", 0), ["fork", 0]]
        self.check_bad(log, 1)
        self.assertEqual(log, [("fork", 0), ["fork", 0]])

    def test_no_list(self):
        for thing in [(), (("fork", 0),), *odd_tuples(), *[
                thing for thing in odd_things() if not isinstance(thing, list)]]:
            self.check_bad(thing, -1)

    def test_no_deed(self):
        wrong = [["fork", 0], ("fork",), (), ("fork", 0, 0), ("Fork", 0), ("change", 0), ("write", 0),
                 ("write", 0, "a"), ("write", 0, "a", 1, 1), ("meet", 0), ("meet", 0, 1, 2),
                 ("join", 0), ("lose",), ("lose", 0, 1), ("back",), ("read", 0, "a"), ("copy",),
                 ("fork", "0"), ("fork", True), ("fork", False), ("fork", -1), ("fork", None),
                 ("fork", [0]), ("fork", (0,)), ("fork", 10 ** 999), (0, "fork"), ("write", True, "a", 1),
                 ("write", "a", 0, 1), ("meet", 0, True), ("meet", False, 1), ("join", True, 0),
                 ("lose", True), (["fork"], 0), (("fork",), 0), "fork", ("log",), ("held", 0)]
        wrong += [("write", 0, thing, 1) for thing in NO_CELLS]
        wrong += [("write", 0, "a", thing) for thing in NO_VALUES]
        ahead = [("fork", 0), ("write", 1, "a", 1)]
        for thing in wrong + odd_things() + odd_tuples():
            with self.subTest(repr(thing)[:60]):
                self.check_bad([thing], 0)
                self.check_bad(ahead + [thing], 2)
                self.check_bad(ahead + [thing, None], 2)

    def test_what_cannot_be_done(self):
        ahead = [("fork", 0), ("fork", 1), ("join", 0, 1)]
        for deed in [("write", 1, "a", 1), ("write", 3, "a", 1), ("fork", 1), ("fork", 3),
                     ("meet", 0, 1), ("meet", 1, 0), ("meet", 0, 0), ("join", 2, 2), ("join", 3, 0),
                     ("join", 0, 3), ("lose", 1), ("lose", 3)]:
            self.check_bad(ahead + [deed], 3)
            self.check_bad(ahead + [("lose", 0), ("lose", 2)], 4)
        self.check_bad([("fork", 0), ("fork", 0), ("fork", 0)], 2)
        self.check_bad([("fork", 0)], 0, most=1)
        self.check_bad([("lose", 0)], 0)
        self.assertEqual(replayed(PAIR, 3, ahead + [("fork", 2)]).copies(), (0, 2, 3))

    def test_logs_with_one_deed_otherwise(self):
        """Any deed for any other one; the first that can't be done then, if there is one."""
        for seed, book in enumerate(books()[:8]):
            rng = random.Random(seed)
            log = random_log(seed, book, 3, 12)
            for at in range(12):
                for _ in range(12):
                    copy, other = rng.randrange(5), rng.randrange(5)
                    deed = rng.choice([("write", copy, "b", 4), ("fork", copy), ("lose", copy),
                                       ("meet", copy, other), ("join", copy, other)])
                    changed = log[:at] + [deed] + log[at + 1:]
                    account = Account(book, 3)
                    bad = None
                    for index, entry in enumerate(changed):
                        if not account.can(entry):
                            bad = index
                            break
                        account.do(entry)
                    if bad is None:
                        self.assertEqual(view_of(replayed(book, 3, changed)), account.view())
                    else:
                        self.check_bad(changed, bad, book)

    def test_errors_of_functions_go_on(self):
        """No error of a function, be it one of this package, is taken for one of the log."""
        def boom(*_):
            raise ZeroDivisionError()
        for error in (NoCopy, BadLog, Full, NothingDone):
            def raising(*_):
                raise error(7) if error is BadLog else error()
            rule = Rule(0, raising, lambda stamp: (0, 0), lambda one, other: 0, boom)
            with self.assertRaises(error) as caught:
                replayed(rule, 3, [("fork", 0), ("write", 0, "a", 1)])
            if error is BadLog:
                self.assertEqual(caught.exception.index, 7)
            self.assertRaises(ZeroDivisionError, replayed, rule, 3, [("fork", 0), ("meet", 0, 1)])
            # Arguments are checked ahead of all that is done with them.
            self.check_bad([("write", 0, "a", 1), ("fork", 1)], 1, rule)

    def test_all_errors_are_direct_subclasses(self):
        for name in ("NoCell", "NoValue", "Full", "LastCopy", "NothingDone", "BadLog"):
            self.assertEqual(getattr(errors, name).__bases__, (CopyError,))


if __name__ == "__main__":
    unittest.main()
