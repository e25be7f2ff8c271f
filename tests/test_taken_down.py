"""Tests of [8]: books taken down."""

import itertools
import unittest

from tests.cases import SMALL, TWO, ONE, PAIR, NO_LOOK, counting_rule, odd_rule, wrong_worlds
from tests.reference import all_runs, look_of, nested, random_book, runs_to_rows, worn
from threecopies.books import Book, Rule
from threecopies.errors import NoWorld, TooMany
from threecopies.judging import taken_down


class TestTakenDown(unittest.TestCase):
    def check(self, book, world, runs):
        """The Book that is taken down; each stamp stands for one, all runs through."""
        down = taken_down(book, world)
        self.assertIsInstance(down, Book)
        self.assertEqual(down.looks is None, book.looks is None)
        meant = {}
        for run in runs:
            bears, due = worn(down, run), worn(book, run)
            self.assertEqual(sorted(bears), sorted(due))
            for copy, stamp in bears.items():
                self.assertEqual(meant.setdefault(stamp, due[copy]), due[copy])
            if book.looks is not None:
                for one, other in itertools.permutations(bears, 2):
                    self.assertEqual(look_of(down, bears[one], bears[other]),
                                     look_of(book, due[one], due[other]))
        return down, meant

    def test_all_runs_of_small_worlds(self):
        for seed, world in enumerate(SMALL):
            runs = all_runs(world, 5 if world[0] < 3 else 4)
            for book in (random_book(seed, 3), random_book(seed, 4, False), PAIR, ONE):
                for told in (book, odd_rule(book)):
                    with self.subTest(world=world, seed=seed):
                        self.check(told, world, runs)

    def test_just_as_many_stamps_as_come(self):
        for seed in range(12):
            for world in SMALL:
                book = random_book(seed, 5)
                runs = runs_to_rows([book], world)
                for told in (book, odd_rule(book)):
                    down, meant = self.check(told, world, runs)
                    come = {repr(stamp) for run in runs for stamp in worn(told, run).values()}
                    self.assertEqual(len(down.changes), len(come))
                    self.assertEqual({repr(stamp) for stamp in meant.values()}, come)

    def test_stamps_that_come_nowhere_are_left_out(self):
        many = 400
        book = Book(399, tuple(range(many)), ((399, 399),) * many, ((399,) * many,) * many, None)
        self.assertEqual(len(taken_down(book, (3, "free", True)).changes), 1)

    def test_what_never_happens_is_not_asked(self):
        """In a world of kind pen the second half is never changed, nor forked where no room is."""
        def only(allowed, answer):
            def told(*asked):
                self.assertIn(asked, allowed)
                return answer
            return told

        rule = Rule("a", only([("a",), ("l",)], "l"), only([("a",), ("l",)], ("l", "r")),
                    only([("l", "r"), ("r", "l")], "l"), only([("l", "r"), ("r", "l")], "apart"))
        down = taken_down(rule, (2, "pen", False))
        self.assertEqual(len(down.changes), 3)
        rule = Rule("a", only([("a",)], "a"), only([], None), only([], None), only([], None))
        self.assertEqual(len(taken_down(rule, (1, "free", True)).changes), 1)

    def test_a_rule_of_functions(self):
        words = {("l", "r"): "newer", ("r", "l"): "elder", ("l", "c"): "apart",
                 ("c", "l"): "apart", ("c", "r"): "newer", ("r", "c"): "elder"}
        rule = Rule(0, lambda stamp: "c", lambda stamp: ("l", "r"), lambda one, other: (one, 7),
                    lambda one, other: words.get((one, other), "same"))
        down, meant = self.check(rule, TWO, all_runs(TWO, 4))
        self.assertEqual(set(meant.values()), {0, "c", "l", "r", ("l", 7), ("r", 7), ("c", 7)})
        self.assertEqual(len(down.changes), 7)

    def test_tall_and_wide_stamps(self):
        wide = tuple(range(99000))
        deep = nested(tuple)
        rule = Rule(deep, lambda stamp: wide, lambda stamp: (stamp, deep),
                    lambda one, other: wide[:-1], None)
        down, meant = self.check(rule, TWO, all_runs(TWO, 3))
        self.assertEqual(set(meant.values()), {deep, wide, wide[:-1]})

    def test_stamps_up_to_400(self):
        for many, right in ((400, True), (401, False)):
            rule = Rule(0, lambda stamp: (stamp + 1) % many, None, None, None)
            if right:
                down = taken_down(rule, (1, "pen", False))
                self.assertEqual(len(down.changes), many)
                self.assertEqual(taken_down(down, (1, "pen", False)), down)
            else:
                with self.assertRaises(TooMany) as caught:
                    taken_down(rule, (1, "pen", False))
                self.assertEqual(caught.exception.most, 400)

    def test_rows_up_to_20000(self):
        """Rows are counted ahead of stamps."""
        for many, due in ((20000, 400), (20001, 20000), (10 ** 9, 20000)):
            rule = Rule(0, lambda stamp: (stamp + 1) % many, None, None, None)
            with self.assertRaises(TooMany) as caught:
                taken_down(rule, (1, "free", False))
            self.assertEqual(caught.exception.most, due)

    def test_rows_tell_the_order_of_the_copies(self):
        """So many stamps give as many rows of one copy, and the square of it of two."""
        for many in (140, 141):
            rule = Rule(0, lambda stamp: (stamp + 1) % many, lambda stamp: (0, 0),
                        lambda one, other: 0, None)
            if many * many + many <= 20000:
                self.assertEqual(len(taken_down(rule, TWO).changes), many)
            else:
                with self.assertRaises(TooMany) as caught:
                    taken_down(rule, TWO)
                self.assertEqual(caught.exception.most, 20000)

    def test_rows_tell_the_mark(self):
        """Copy 0 counts from 0, the other one from 101: alone with stamp 101, it may be either."""
        rule = Rule(0, lambda stamp: min(stamp + 1, 199), lambda stamp: (0, 101),
                    lambda one, other: 0, None)
        self.assertEqual(200 * 99 + 200, 20000)
        self.assertEqual(len(taken_down(rule, (2, "trunk", False)).changes), 200)
        with self.assertRaises(TooMany) as caught:
            taken_down(rule, (2, "trunk", True))
        self.assertEqual(caught.exception.most, 20000)

    def test_errors(self):
        for thing in wrong_worlds():
            for book in (PAIR, NO_LOOK, counting_rule()):
                self.assertRaises(NoWorld, taken_down, book, thing)

    def test_errors_of_functions_go_on(self):
        def broken(*_):
            raise ZeroDivisionError()
        rules = [Rule(0, broken, lambda stamp: (0, 0), lambda one, other: 0, None),
                 Rule(0, lambda stamp: 0, broken, lambda one, other: 0, None),
                 Rule(0, lambda stamp: 0, lambda stamp: (0, 0), broken, None),
                 Rule(0, lambda stamp: 0, lambda stamp: (0, 0), lambda one, other: 0, broken)]
        for rule in rules:
            self.assertRaises(ZeroDivisionError, taken_down, rule, TWO)

    def test_equal_calls_give_equal_books(self):
        for seed, world in enumerate(SMALL):
            for book in (random_book(seed, 4), odd_rule(random_book(seed, 4))):
                self.assertEqual(taken_down(book, world), taken_down(book, world))


if __name__ == "__main__":
    unittest.main()
