"""Tests of [13] and [14]: what stamps tell back, and where books part."""

import itertools
import random
import unittest

from tests.cases import (LOOK, NO_LOOK, ONE, PAIR, SMALL, TWO, counting_rule, odd_rule, rule_of,
                         wrong_worlds)
from tests.reference import (WORDS, all_runs, look_of, modelled, nested, next_runs, odd_things,
                             odd_tuples, random_book, runs_to_rows, runs_to_standings, tree_rule,
                             worn)
from threecopies.books import Book, Rule, renamed
from threecopies.errors import NoCopy, NoLook, NoStamp, NoStamps, NoWorld, TooMany
from threecopies.judging import serves
from threecopies.makers import nine_book, sixteen_book, trunk_rule, twelve_book, two_book
from threecopies.runs import is_run
from threecopies.telling import parting, run_to, truths

EVERY = ("apart", "elder", "newer", "same")
THREE = (3, "free", False)
# Things that are no stamp of any Book and can be none of a Rule.
NO_STAMPS = [True, False, None, [], [0], {}, {0: 0}, PAIR, counting_rule(), (0, True), (None,),
             ("a", [0]), ((), ({},)), nested(list), nested(dict), (nested(tuple),), (PAIR,)]


def boom(*_):
    raise ZeroDivisionError()


def bad_rules():
    """Rules of which one function raises an error, perhaps one of this package."""
    def refused(*_):
        raise NoCopy()
    for error, raising in ((ZeroDivisionError, boom), (NoCopy, refused)):
        yield error, Rule(0, raising, lambda stamp: (0, 0), lambda one, other: 0, boom)
        yield error, Rule(0, lambda stamp: 0, raising, lambda one, other: 0, boom)
        yield error, Rule(0, lambda stamp: 0, lambda stamp: (0, 0), raising, boom)


def turning(many, looks=None):
    """A Rule that counts its stamps round; where one copy may live there are just so many rows."""
    return Rule(0, lambda stamp: (stamp + 1) % many, None, None, looks)


def words_at(book, runs, world):
    """The true words by the pairs of stamps that two copies bear behind one of the runs."""
    words = {}
    for run in runs:
        model, _ = modelled(run, world)
        bears = worn(book, run)
        for one, other in itertools.permutations(sorted(model.known), 2):
            words.setdefault((bears[one], bears[other]), set()).add(model.truth(one, other))
    return words


def odd_names(book):
    """The stamps of a Book by the names of its odd rule."""
    return [odd_rule(Book(stamp, book.changes, book.forks, book.joins, book.looks)).first
            for stamp in range(len(book.changes))]


class TestTruths(unittest.TestCase):
    def test_by_hand(self):
        self.assertEqual(truths(PAIR, TWO, 0, 0), ("same",))
        self.assertEqual(truths(PAIR, TWO, 0, 1), ("elder",))
        self.assertEqual(truths(PAIR, TWO, 1, 0), ("newer",))
        self.assertEqual(truths(PAIR, TWO, 1, 1), ("apart",))
        self.assertEqual(truths(PAIR, (2, "pen", False), 1, 1), ())
        self.assertEqual(truths(PAIR, (1, "free", False), 0, 0), ())

    def test_all_words_ascend(self):
        """One stamp for all, at once newer and elder."""
        self.assertEqual(truths(ONE, TWO, 0, 0), EVERY)
        self.assertEqual(truths(ONE, (2, "pen", True), 0, 0), ("elder", "newer", "same"))
        self.assertEqual(truths(ONE, (7, "pen", False), 0, 0), ("elder", "newer", "same"))
        self.assertEqual(truths(ONE, (3, "trunk", False), 0, 0), EVERY)

    def test_two_copies_with_one_stamp_are_two(self):
        """A copy is never the same as itself; so a world of one copy tells nothing."""
        for kind in ("free", "pen", "trunk"):
            for losses in (False, True):
                self.assertEqual(truths(ONE, (1, kind, losses), 0, 0), ())

    def test_small_worlds_against_the_runs(self):
        for seed, world in enumerate(SMALL):
            for book in [NO_LOOK] + [random_book(10 * seed + many, many) for many in (2, 4)]:
                runs = list(runs_to_standings(book, world).values())
                for told in (book, odd_rule(book)):
                    due = words_at(told, runs, world)
                    many = len(book.changes)
                    names = list(range(many)) if told is book else odd_names(book)
                    for one, other in itertools.product(names, repeat=2):
                        with self.subTest(world=world, one=one, other=other):
                            self.assertEqual(truths(told, world, one, other),
                                             tuple(sorted(due.get((one, other), ()))))

    def test_worlds_of_more_copies(self):
        for world in [(4, "pen", False), (4, "trunk", True), (5, "trunk", False)]:
            runs = list(runs_to_standings(PAIR, world).values())
            due = words_at(PAIR, runs, world)
            for one, other in itertools.product(range(2), repeat=2):
                self.assertEqual(truths(PAIR, world, one, other),
                                 tuple(sorted(due.get((one, other), ()))))

    def test_all_that_is_true_in_short_runs_is_told(self):
        for seed, world in enumerate([TWO, (3, "pen", True), (3, "trunk", False)]):
            book = random_book(seed, 3)
            for (one, other), words in words_at(book, all_runs(world, 4), world).items():
                self.assertLessEqual(words, set(truths(book, world, one, other)))

    def test_made_books_told_back(self):
        """Where a look is the truth, two stamps mean at most the one word that it says."""
        cases = [(two_book(), TWO), (two_book(), (2, "free", True)), (nine_book(), THREE),
                 (twelve_book(), (3, "pen", False)), (sixteen_book(), THREE),
                 (sixteen_book(), (3, "trunk", False))]
        for book, world in cases:
            told = set()
            for one, other in itertools.product(range(len(book.changes)), repeat=2):
                words = truths(book, world, one, other)
                self.assertIn(words, [(), (book.looks[one][other],)])
                told.update(words)
            self.assertEqual(told, set(WORDS) - ({"apart"} if world[1] == "pen" else set()))

    def test_a_trunk_rule_told_back(self):
        world = (3, "trunk", False)
        rule = trunk_rule(3)
        seen = {stamp for run in all_runs(world, 4) for stamp in worn(rule, run).values()}
        for one, other in itertools.product(sorted(seen, key=repr), repeat=2):
            self.assertIn(truths(rule, world, one, other), [(), (rule.looks(one, other),)])
        run = (("fork", 0), ("change", 1))
        bears = worn(rule, run)
        self.assertEqual(truths(rule, world, bears[0], bears[1]), ("elder",))
        self.assertEqual(truths(rule, world, bears[1], bears[0]), ("newer",))

    def test_a_book_without_looks(self):
        self.assertEqual(truths(NO_LOOK, TWO, 1, 0), ("newer",))

    def test_stamps_of_rules_that_come_nowhere(self):
        rule = rule_of(PAIR, lambda stamp: ("l", stamp), lambda name: name[1])
        self.assertEqual(truths(rule, TWO, ("l", 0), ("l", 1)), ("elder",))
        wide = tuple(range(99999))
        for stamp in (0, 1, "l", "", (), -1, 10 ** 999, ("l", 2), ("l", "0"), nested(tuple), wide,
                      ("l", (0,)), (("l", 0),), ("l",), ("l", 0, 0)):
            for pair in ((stamp, ("l", 0)), (("l", 1), stamp), (stamp, stamp)):
                self.assertEqual(truths(rule, TWO, *pair), ())

    def test_tall_and_wide_stamps_told(self):
        wide, deep = tuple(range(99999)), nested(tuple)
        rule = Rule(deep, lambda stamp: wide, lambda stamp: (deep, deep),
                    lambda one, other: deep, None)
        self.assertEqual(truths(rule, TWO, wide, deep), ("newer",))
        self.assertEqual(truths(rule, TWO, deep, deep), ("same",))
        self.assertEqual(run_to(rule, TWO, (wide, wide)),
                         (("fork", 0), ("change", 0), ("change", 1)))

    def test_no_world(self):
        for thing in wrong_worlds():
            for book in (PAIR, NO_LOOK, counting_rule()):
                self.assertRaises(NoWorld, truths, book, thing, 0, 0)
                self.assertRaises(NoWorld, truths, book, thing, None, None)

    def test_no_stamp_of_a_book(self):
        wrong = [thing for thing in odd_things() + odd_tuples() + NO_STAMPS + [2, (0,), ("a",)]]
        for book in (PAIR, NO_LOOK):
            for thing in wrong:
                self.assertRaises(NoStamp, truths, book, TWO, thing, 0)
                self.assertRaises(NoStamp, truths, book, TWO, 0, thing)
            self.assertEqual(truths(book, TWO, 1, 0), ("newer",))
        self.assertRaises(NoStamp, truths, ONE, TWO, 0, 1)

    def test_no_stamp_of_a_rule(self):
        rule = rule_of(PAIR)
        for thing in NO_STAMPS:
            with self.subTest(repr(thing)[:60]):
                self.assertRaises(NoStamp, truths, rule, TWO, thing, 0)
                self.assertRaises(NoStamp, truths, rule, TWO, 0, thing)

    def test_a_stamp_is_refused_ahead_of_too_many(self):
        rule = counting_rule()
        self.assertRaises(NoStamp, truths, rule, TWO, None, 0)
        self.assertRaises(NoStamp, truths, rule, TWO, 0, None)
        self.assertRaises(NoStamps, run_to, rule, TWO, [0])

    def test_what_is_just_not_too_deep_or_too_much(self):
        empty = ()
        for _ in range(30):
            empty = (empty,)
        pairs = ((0,) * 49999,) * 2
        for thing in (nested(tuple, 30), empty, (nested(tuple, 29), "a"), (0,) * 100000, pairs):
            self.assertEqual(truths(rule_of(PAIR), TWO, thing, 0), ())
            self.assertIsNone(run_to(rule_of(PAIR), TWO, (thing, 0, thing)))
            self.assertRaises(NoStamp, truths, rule_of(PAIR), TWO, (thing, None), 0)

    def test_what_is_nested_too_deep_or_too_much_is_no_stamp(self):
        doubled = ()
        for _ in range(29):
            doubled = (doubled, doubled)
        pairs = ((0,) * 49999, (0,) * 50000)
        for thing in (nested(tuple, 31), (0, nested(tuple, 30)), (0,) * 100001, pairs, doubled):
            self.assertRaises(NoStamp, truths, rule_of(PAIR), TWO, thing, 0)
            self.assertRaises(NoStamps, run_to, rule_of(PAIR), TWO, (0, thing))

    def test_too_many(self):
        world = (1, "free", False)
        self.assertEqual(truths(turning(20000), world, 0, 0), ())
        for rule, stamp in ((turning(20001), 0), (turning(20001), "x")):
            with self.assertRaises(TooMany) as caught:
                truths(rule, world, 0, stamp)
            self.assertEqual(caught.exception.most, 20000)
        for rule_world in (TWO, (7, "pen", True), (4, "trunk", False)):
            self.assertRaises(TooMany, truths, counting_rule(), rule_world, 0, 1)

    def test_errors_of_functions_go_on(self):
        for error, rule in bad_rules():
            self.assertRaises(error, truths, rule, TWO, 0, 0)
            self.assertRaises(error, run_to, rule, TWO, (0, 0))

    def test_no_look_is_asked(self):
        self.assertEqual(truths(rule_of(NO_LOOK), TWO, 1, 1), ("apart",))
        rule = Rule(0, lambda stamp: 0, lambda stamp: (0, 0), lambda one, other: 0, boom)
        self.assertEqual(truths(rule, TWO, 0, 0), EVERY)
        self.assertEqual(run_to(rule, TWO, (0, 0)), (("fork", 0),))


class TestRunTo(unittest.TestCase):
    def check(self, book, world, row, due):
        """A run to a row of stamps, of so many deeds; none if due is None."""
        found = run_to(book, world, row)
        if due is None:
            self.assertIsNone(found)
            return
        self.assertTrue(is_run(found))
        self.assertEqual(len(found), due)
        self.assertIsNone(modelled(found, world)[1])
        self.assertEqual(sorted(worn(book, found).values(), key=repr), sorted(row, key=repr))

    def test_by_hand(self):
        self.assertEqual(run_to(PAIR, TWO, (0,)), ())
        self.assertEqual(run_to(PAIR, TWO, (1,)), (("change", 0),))
        self.assertEqual(run_to(PAIR, TWO, (0, 0)), (("fork", 0),))
        self.assertIsNone(run_to(PAIR, TWO, (0, 0, 0)))
        self.assertIsNone(run_to(PAIR, (1, "free", False), (0, 0)))
        self.assertIsNone(run_to(PAIR, (2, "pen", False), (1, 1)))
        self.check(PAIR, TWO, (1, 1), 3)
        self.check(PAIR, TWO, (1, 0), 2)
        self.check(PAIR, TWO, (0, 1), 2)

    def test_no_copies(self):
        """No stamps at all are a tuple of stamps, and the last copy is never gone."""
        for book in (PAIR, ONE, rule_of(PAIR), odd_rule(PAIR)):
            for world in ((1, "free", True), (1, "pen", False), (3, "free", True)):
                self.assertIsNone(run_to(book, world, ()))

    def test_small_worlds_against_the_runs(self):
        for seed, world in enumerate(SMALL):
            for book in [PAIR, ONE, random_book(10 * seed, 3)]:
                due = {}
                for (row, _, _), run in runs_to_standings(book, world).items():
                    due[row] = min(len(run), due.get(row, len(run)))
                names = odd_names(book)
                rng = random.Random(seed)
                for size in range(0, world[0] + 2):
                    for row in itertools.combinations_with_replacement(range(len(names)), size):
                        with self.subTest(world=world, row=row):
                            mixed = tuple(rng.sample(row, size))
                            self.check(book, world, mixed, due.get(row))
                            self.check(odd_rule(book), world,
                                       tuple(names[stamp] for stamp in mixed), due.get(row))

    def test_worlds_of_more_copies(self):
        for world in [(4, "pen", False), (4, "trunk", True), (5, "trunk", False)]:
            due = {}
            for (row, _, _), run in runs_to_standings(PAIR, world).items():
                due[row] = min(len(run), due.get(row, len(run)))
            for size in range(1, 7):
                for row in itertools.combinations_with_replacement(range(2), size):
                    self.check(PAIR, world, row[::-1], due.get(row))

    def test_losses_bring_what_comes_nowhere_else(self):
        book = Book(0, (0, 1, 2), ((1, 2), (1, 1), (2, 2)), ((0,) * 3,) * 3, None)
        self.assertIsNone(run_to(book, TWO, (2,)))
        self.check(book, (2, "free", True), (2,), 2)

    def test_made_books_told_back(self):
        for book in (nine_book(), twelve_book(), sixteen_book()):
            for run in all_runs(THREE, 2):
                row = tuple(worn(book, run).values())
                found = run_to(book, THREE, row)
                self.assertLessEqual(len(found), len(run))
                self.check(book, THREE, row[::-1], len(found))

    def test_a_trunk_rule_told_back(self):
        world = (3, "trunk", False)
        rule = trunk_rule(3)
        for run in all_runs(world, 4):
            row = tuple(worn(rule, run).values())
            found = run_to(rule, world, row)
            self.assertLessEqual(len(found), len(run))
            self.check(rule, world, row, len(found))
        self.assertIsNone(run_to(rule, world, (0,)))
        self.assertIsNone(run_to(rule, world, (rule.first, rule.first)))

    def test_stamps_that_come_nowhere(self):
        rule = rule_of(PAIR, lambda stamp: ("l", stamp), lambda name: name[1])
        for stamp in (0, "l", (), ("l", 2), ("l", "0"), nested(tuple), tuple(range(99999))):
            self.assertIsNone(run_to(rule, TWO, (stamp,)))
            self.assertIsNone(run_to(rule, TWO, (("l", 0), stamp)))
            self.assertIsNone(run_to(rule, TWO, (stamp, stamp)))
        self.assertEqual(run_to(rule, TWO, (("l", 0),) * 2), (("fork", 0),))

    def test_many_stamps(self):
        self.assertIsNone(run_to(PAIR, TWO, (0,) * 50000))
        self.assertIsNone(run_to(rule_of(PAIR), TWO, (0,) * 50000))
        wide = tuple(range(99999))
        rule = Rule(wide, lambda stamp: wide, lambda stamp: (wide, wide),
                    lambda one, other: wide, None)
        self.assertEqual(len(run_to(rule, (7, "trunk", False), (wide,) * 7)), 6)

    def test_no_world(self):
        for thing in wrong_worlds():
            for book in (PAIR, NO_LOOK, counting_rule()):
                self.assertRaises(NoWorld, run_to, book, thing, (0,))
                self.assertRaises(NoWorld, run_to, book, thing, None)

    def test_no_stamps(self):
        wrong = [thing for thing in odd_things() + odd_tuples() if thing != (0,) * 50000]
        for thing in wrong + [0, [0], [0, 0], (2,), (0, 2), (0, -1), (0, True), (False,), (0, None),
                              ((0,),), ((0, 0),), ("0",), {0: 0}]:
            for book in (PAIR, NO_LOOK):
                self.assertRaises(NoStamps, run_to, book, TWO, thing)
        for thing in odd_things() + [(stamp,) for stamp in NO_STAMPS] + [
                (0, 0, stamp) for stamp in NO_STAMPS] + [[0], [(0,)], 0]:
            with self.subTest(repr(thing)[:60]):
                self.assertRaises(NoStamps, run_to, rule_of(PAIR), TWO, thing)

    def test_too_many(self):
        world = (1, "pen", False)
        self.assertEqual(len(run_to(turning(20000), world, (19999,))), 19999)
        self.assertIsNone(run_to(turning(20000), world, (20000,)))
        for row in ((0,), (1,), (), ("x",), (0, 0)):
            with self.assertRaises(TooMany) as caught:
                run_to(turning(20001), world, row)
            self.assertEqual(caught.exception.most, 20000)
            self.assertRaises(TooMany, run_to, counting_rule(), (3, "free", True), row)

    def test_equal_calls_give_equal_runs(self):
        for seed, world in enumerate(SMALL):
            book = random_book(seed, 3)
            for row in itertools.combinations_with_replacement(range(3), 2):
                self.assertEqual(run_to(book, world, row), run_to(book, world, row))


def parting_words(one, other, run, world):
    """The pairs of copies of which the looks say unlike words behind a run."""
    bears, others = worn(one, run), worn(other, run)
    copies = sorted(modelled(run, world)[0].known)
    return [(a, b) for a, b in itertools.permutations(copies, 2)
            if look_of(one, bears[a], bears[b]) != look_of(other, others[a], others[b])]


class TestParting(unittest.TestCase):
    def check(self, one, other, world, runs):
        """Where two books part, against all that is said behind these runs."""
        found = parting(one, other, world)
        due = [len(run) for run in runs if parting_words(one, other, run, world)]
        if not due:
            self.assertIsNone(found)
            return
        self.assertIsInstance(found, tuple)
        run, copies = found
        self.assertTrue(is_run(run))
        self.assertIsNone(modelled(run, world)[1])
        self.assertEqual(len(run), min(due))
        self.assertIn(copies, parting_words(one, other, run, world))

    def test_by_hand(self):
        """One stamp for all says same; so it parts from the truth at the first change."""
        found = parting(ONE, PAIR, TWO)
        run, copies = found
        self.assertEqual(run[0], ("fork", 0))
        self.assertEqual(len(run), 2)
        self.assertEqual(sorted(copies), [0, 1])
        self.assertIsNone(parting(PAIR, PAIR, TWO))
        self.assertIsNone(parting(ONE, PAIR, (1, "free", True)))
        never = Book(0, (0,), ((0, 0),), ((0,),), (("apart",),))
        run, copies = parting(ONE, never, (2, "pen", False))
        self.assertEqual(run, (("fork", 0),))

    def test_small_worlds_against_the_runs(self):
        """Rows of both stamps, gone through by runs."""
        for seed, world in enumerate(SMALL):
            book = random_book(seed, 2 if world[0] == 3 else 3)
            others = [ONE, PAIR, random_book(seed + 100, 2)]
            for other in others:
                runs = runs_to_rows([book, other], world)
                for one, two in ((book, other), (other, book), (odd_rule(book), other),
                                 (other, odd_rule(book)), (rule_of(book), odd_rule(other))):
                    with self.subTest(world=world, seed=seed):
                        self.check(one, two, world, runs)

    def test_one_word_otherwise(self):
        """Books that part late: the same but for one word."""
        for seed, world in enumerate([TWO, (2, "pen", True), (2, "trunk", True), (3, "pen", False)]):
            book = random_book(seed, 4)
            runs = runs_to_rows([book, book], world)
            for one, other in itertools.product(range(4), repeat=2):
                rows = [list(row) for row in book.looks]
                rows[one][other] = WORDS[(WORDS.index(rows[one][other]) + 1) % 4]
                lookalike = Book(book.first, book.changes, book.forks, book.joins,
                                 tuple(tuple(row) for row in rows))
                self.check(book, lookalike, world, runs)
                self.check(lookalike, rule_of(book), world, runs)

    def test_books_that_say_the_same(self):
        for seed in range(8):
            book = random_book(seed, 4)
            order = tuple(random.Random(seed).sample(range(4), 4))
            for world in (TWO, (3, "pen", False), (3, "trunk", True)):
                self.assertIsNone(parting(book, book, world))
                self.assertIsNone(parting(book, renamed(book, order), world))
                self.assertIsNone(parting(odd_rule(book), book, world))

    def test_made_books(self):
        made = [nine_book(), twelve_book(), sixteen_book()]
        for one, other in itertools.permutations(made, 2):
            self.assertIsNone(parting(one, other, THREE))
        self.assertIsNone(parting(nine_book(), trunk_rule(3), (3, "trunk", False)))
        for one in made:
            run, copies = parting(one, two_book(), THREE)
            self.assertEqual(len(run), 3)
            self.assertIn(copies, parting_words(one, two_book(), run, THREE))
            self.assertIsNone(parting(two_book(), one, TWO))
        self.assertIs(serves(nine_book(), THREE, LOOK), True)

    def test_looks_are_asked_of_living_copies_alone(self):
        def look(one, other):
            self.assertIn((one, other), [("l", "r"), ("r", "l")])
            return "same"
        rule = Rule("a", lambda stamp: stamp, lambda stamp: ("l", "r"),
                    lambda one, other: "a", look)
        self.assertIsNone(parting(rule, rule_of(ONE), (2, "pen", False)))

    def test_no_look(self):
        rules = [NO_LOOK, tree_rule()]
        for bare in rules:
            for whole in (PAIR, counting_rule(lambda one, other: "same")):
                self.assertRaises(NoLook, parting, bare, whole, TWO)
                self.assertRaises(NoLook, parting, whole, bare, TWO)
                self.assertRaises(NoLook, parting, bare, whole, None)
                self.assertRaises(NoLook, parting, whole, bare, None)
            self.assertRaises(NoLook, parting, bare, bare, TWO)

    def test_no_world(self):
        for thing in wrong_worlds():
            self.assertRaises(NoWorld, parting, PAIR, ONE, thing)
            self.assertRaises(NoWorld, parting, counting_rule(boom), PAIR, thing)

    def test_rows_up_to_20000(self):
        """Rows are told by the stamps of both books: those that count round together."""
        def same(one, other):
            return "same"
        world = (1, "free", False)
        for one, other in ((125, 160), (1, 20000), (20000, 1), (20000, 20000)):
            self.assertIsNone(parting(turning(one, same), turning(other, same), world))
        for one, other in ((3, 6667), (1, 20001), (20001, 1), (2, 10001), (141, 142)):
            with self.assertRaises(TooMany) as caught:
                parting(turning(one, same), turning(other, same), world)
            self.assertEqual(caught.exception.most, 20000)

    def test_rows_tell_the_order_of_the_copies_and_the_mark(self):
        def counting(many, first, second):
            return Rule(0, lambda stamp: min(stamp + 1, many), lambda stamp: (first, second),
                        lambda one, other: 0, lambda one, other: "same")
        # Two copies that count up to 140 make 141 * 141 rows, one copy 141: 20022; to 139: 19740.
        self.assertIsNone(parting(counting(139, 0, 0), ONE, TWO))
        self.assertRaises(TooMany, parting, counting(140, 0, 0), ONE, TWO)
        # Copy 0 counts from 0, the other one from 101 to 199; alone it may be either.
        self.assertIsNone(parting(ONE, counting(199, 0, 101), (2, "trunk", False)))
        self.assertRaises(TooMany, parting, ONE, counting(199, 0, 101), (2, "trunk", True))

    def test_too_many_whatever_is_found_ahead(self):
        rule = counting_rule(lambda one, other: "apart")
        for world in (TWO, (7, "trunk", False), (3, "pen", True)):
            self.assertRaises(TooMany, parting, rule, PAIR, world)
            self.assertRaises(TooMany, parting, PAIR, rule, world)
            self.assertRaises(TooMany, parting, rule, rule, world)

    def test_errors_of_functions_go_on(self):
        for error, rule in bad_rules():
            self.assertRaises(error, parting, rule, PAIR, TWO)
            self.assertRaises(error, parting, PAIR, rule, TWO)
        rule = Rule(0, lambda stamp: 0, lambda stamp: (0, 0), lambda one, other: 0, boom)
        self.assertRaises(ZeroDivisionError, parting, rule, ONE, TWO)
        self.assertRaises(ZeroDivisionError, parting, ONE, rule, TWO)
        self.assertIsNone(parting(ONE, rule, (1, "free", False)))

    def test_equal_calls_give_equal_pairs(self):
        for seed, world in enumerate(SMALL):
            one, other = random_book(seed, 2), random_book(seed + 50, 2)
            self.assertEqual(parting(one, other, world), parting(one, other, world))

    def test_no_run_is_shorter(self):
        """All runs of fewer deeds, none left out."""
        for seed, world in enumerate([TWO, (3, "free", True), (3, "pen", False)]):
            one, other = random_book(seed + 7, 3), random_book(seed + 8, 3)
            found = parting(one, other, world)
            shorter = [()]
            for _ in range(min(len(found[0]) - 1, 3)):
                for run in shorter:
                    self.assertEqual(parting_words(one, other, run, world), [])
                shorter = [more for run in shorter for more in next_runs(run, world)]


if __name__ == "__main__":
    unittest.main()
