"""Tests of [12], and of what [9] says of the made books."""

import itertools
import unittest

from tests.reference import (KINDS, has_twin, lying_copies, nested, odd_things, odd_tuples,
                             random_run, runs_to_standings, worn)
from threecopies.books import Book, Rule, renamed, said, stamps
from threecopies.errors import NoNumber, TooMany
from threecopies.judging import is_closed, lie, serves, standings, taken_down
from threecopies.makers import nine_book, sixteen_book, trunk_rule, twelve_book, two_book
from threecopies.runs import living, truth

LOOKS = [("look", *answers) for answers in ((0, 1, 2, 3), (0, 1, 1, 1), (0, 1, 0, 0),
                                            (0, 0, 1, 0), (0, 0, 0, 1), (3, 3, 3, 3), (1, 0, 0, 1))]
ALONE = ("alone",)
LOTS = ("lots",)
BOOKS = {nine_book: 9, twelve_book: 12, sixteen_book: 16}


def worlds(most, losses=(False,)):
    return [(many, kind, lost) for many in range(1, most + 1) for kind in KINDS for lost in losses]


def made_for():
    """Each book with each world for which it is made, and the questions that it serves there."""
    for world in worlds(2, (False, True)):
        yield two_book(), world, LOOKS + [LOTS]
    for world in worlds(3):
        yield nine_book(), world, LOOKS
        yield twelve_book(), world, LOOKS + [LOTS]
        yield sixteen_book(), world, LOOKS + [ALONE]


class TestBooks(unittest.TestCase):
    def test_how_many_stamps(self):
        for make, many in {two_book: 2, **BOOKS}.items():
            book = make()
            self.assertIsInstance(book, Book)
            self.assertEqual(len(book.changes), many)
            self.assertIsNotNone(book.looks)
            self.assertEqual(make(), book)

    def test_they_serve_what_they_are_made_for(self):
        for book, world, questions in made_for():
            for question in questions:
                with self.subTest(many=len(book.changes), world=world, question=question):
                    self.assertIs(serves(book, world, question), True)

    def test_the_look_is_always_the_truth(self):
        for book, world, _ in made_for():
            self.assertIsNone(lie(book, world))

    def test_the_look_in_all_standings(self):
        """By a run to each standing, all looks and all sights are tried."""
        for book, world, questions in made_for():
            runs = runs_to_standings(book, world)
            self.assertEqual(sorted(runs), standings(book, world))
            self.assertIs(is_closed(book, world, sorted(runs)), True)
            for run in runs.values():
                self.assertEqual(lying_copies(book, run, world), [])
            for question in questions:
                self.assertFalse(has_twin(book, world, question, list(runs.values())))

    def test_long_runs(self):
        for book, world, questions in made_for():
            runs = [random_run(seed, world, 60) for seed in range(6)]
            for run in runs:
                for one, other in itertools.permutations(living(run, world), 2):
                    self.assertEqual(said(book, run, world, one, other),
                                     truth(run, world, one, other))
            for question in questions:
                self.assertFalse(has_twin(book, world, question, runs))

    def test_what_they_don_t_serve(self):
        free = (3, "free", False)
        self.assertIs(serves(two_book(), free, LOOKS[0]), False)
        self.assertIs(serves(two_book(), free, ("look", 0, 1, 1, 1)), False)
        self.assertIs(serves(two_book(), (2, "free", False), ALONE), False)
        self.assertIs(serves(nine_book(), free, ("look", 0, 1, 1, 1)), True)
        for make in BOOKS:
            self.assertIs(serves(make(), (3, "free", True), LOOKS[0]), False)
            self.assertIsNotNone(lie(make(), (3, "free", True)))

    def test_new_names_serve_too(self):
        for make, many in BOOKS.items():
            order = tuple((5 * stamp + 2) % many if many % 5 else many - 1 - stamp
                          for stamp in range(many))
            book = renamed(make(), order)
            self.assertIsNone(lie(book, (3, "free", False)))

    def test_all_stamps_are_needed_but_for_kinds(self):
        """In the free world of three copies each stamp is borne somewhere."""
        for make, many in BOOKS.items():
            self.assertEqual(len(taken_down(make(), (3, "free", False)).changes), many)

    def test_taken_down(self):
        for book, world, questions in made_for():
            down = taken_down(book, world)
            self.assertIsNone(lie(down, world))
            for question in questions:
                self.assertIs(serves(down, world, question), True)


class TestTrunkRule(unittest.TestCase):
    def test_it_is_a_new_rule_each_time(self):
        for most in range(1, 8):
            rule = trunk_rule(most)
            self.assertIsInstance(rule, Rule)
            self.assertFalse(rule == trunk_rule(most))

    def test_small_worlds(self):
        for most in range(1, 5):
            world = (most, "trunk", False)
            self.assertIsNone(lie(trunk_rule(most), world))
            self.assertIs(serves(trunk_rule(most), world, LOOKS[0]), True)

    def test_taken_down(self):
        for most in range(1, 5):
            world = (most, "trunk", False)
            down = taken_down(trunk_rule(most), world)
            self.assertIsInstance(down, Book)
            self.assertIsNone(lie(down, world))
            for seed in range(20):
                run = random_run(seed, world, 50)
                for one, other in itertools.permutations(living(run, world), 2):
                    self.assertEqual(said(down, run, world, one, other),
                                     said(trunk_rule(most), run, world, one, other))

    def test_long_runs(self):
        for most in range(1, 8):
            world = (most, "trunk", False)
            rule = trunk_rule(most)
            for seed in range(12):
                run = random_run(seed, world, 150)
                self.assertEqual(lying_copies(rule, run, world), [])

    def test_smaller_worlds(self):
        for most in range(1, 8):
            for less in range(1, most):
                world = (less, "trunk", False)
                run = random_run(most, world, 60)
                self.assertEqual(lying_copies(trunk_rule(most), run, world), [])

    def test_a_branch_that_stays_while_all_others_go(self):
        """One branch is left from the beginning; the labels of the others are used again."""
        for most in range(3, 8):
            world = (most, "trunk", False)
            rule = trunk_rule(most)
            for keep in range(1, most):
                deeds, forks, waiting = [], 0, []
                for number in range(60):
                    if len(waiting) == most - 1:
                        gone = waiting.pop(0 if number % 3 else keep % len(waiting))
                        deeds.append(("join", 0, gone))
                    deeds += [("change", 0), ("fork", 0)]
                    forks += 1
                    if forks > keep:
                        waiting.append(forks)
                        if forks % 4 == 0:
                            deeds.append(("change", forks))
                    else:
                        waiting.insert(0, forks)
                self.assertEqual(lying_copies(rule, tuple(deeds), world), [])

    def test_finitely_many_stamps(self):
        """In every world: what has come behind many deeds goes on to be all that comes."""
        for most, world in [(1, (1, "trunk", False)), (2, (2, "trunk", False)),
                            (3, (3, "trunk", False)), (2, (5, "trunk", True)),
                            (3, (7, "free", True)), (1, (3, "pen", False))]:
            rule = trunk_rule(most)
            come = set()
            for seed in range(40):
                come |= set(worn(rule, random_run(seed, world, 300)).values())
            self.assertLess(len(come), 200)
        for most in range(1, 8):
            # The trunk is not told of losses, and does not count them for ever.
            rule = trunk_rule(most)
            run = ()
            come = set()
            for fork in range(1, 100):
                run += (("fork", 0), ("lose", fork), ("change", 0))
                come |= set(stamps(rule, run[:-2], (2, "trunk", True)).values())
            self.assertLess(len(come), 40)
        self.assertEqual(len(taken_down(trunk_rule(2), (2, "trunk", False)).changes), 5)

    def test_stamps_are_stamps(self):
        def is_stamp(thing):
            if isinstance(thing, tuple):
                return all(is_stamp(part) for part in thing)
            return isinstance(thing, (int, str)) and not isinstance(thing, bool)

        for most in range(1, 8):
            world = (most, "trunk", False)
            for seed in range(5):
                run = random_run(seed, world, 40)
                for stamp in stamps(trunk_rule(most), run, world).values():
                    self.assertTrue(is_stamp(stamp))

    def test_too_many_for_a_book(self):
        with self.assertRaises(TooMany) as caught:
            taken_down(trunk_rule(7), (7, "trunk", False))
        self.assertEqual(caught.exception.most, 20000)

    def test_errors(self):
        for thing in [0, 8, -1, 10 ** 999, -10 ** 999, True, False, None, "3", (3,), [3], {3: 3},
                      nested(tuple), *odd_things(), *odd_tuples()]:
            self.assertRaises(NoNumber, trunk_rule, thing)


if __name__ == "__main__":
    unittest.main()
