"""Tests of [11]: rows of stamps, and the twins that break every book."""

import itertools
import unittest

from tests.reference import (all_deeds, has_twin, modelled, nested, odd_things, odd_tuples,
                             random_book, tree_rule, worn)
from threecopies.books import Book, Rule
from threecopies.breaking import broken, row_of
from threecopies.errors import NoNumber, NoQuestion, NoWorld
from threecopies.judging import is_twin, serves, twin
from threecopies.makers import nine_book, sixteen_book, twelve_book, two_book

ALONE = ("alone",)
WORLDS = [(most, kind, losses) for most, losses in ((4, False), (3, True), (2, True))
          for kind in ("free", "pen")]
LOOKS = [("look", *answers) for answers in itertools.product(range(4), repeat=4)]
# One for each way in which four numbers may be alike.
FEW_LOOKS = [("look", *answers) for answers in itertools.product(range(4), repeat=4)
             if all(answer <= 1 + max(answers[:at], default=-1)
                    for at, answer in enumerate(answers))]


def asked(world, question):
    """Whether the document lets the question be asked in this world of breaking."""
    if question == ALONE:
        return world[0] in (2, 4)
    if question[0] != "look" or world[0] == 2:
        return False
    return question[2] != question[3] if world[1] == "pen" else len(set(question[1:])) > 1


def long_row(book, world, rounds):
    """All stamps of copy 0, ahead of and behind each of so many rounds."""
    run = () if world[2] else (("fork", 0),)
    forks = len(run)
    row = [worn(book, run)[0]]
    for _ in range(rounds):
        forks += 1
        if world[1] == "pen":
            run += (("change", 0),)
        run += (("fork", 0), ("lose", forks) if world[2] else ("join", 1, forks))
        row.append(worn(book, run)[0])
    return row


def counting_rule(many=None):
    """The first halves count on, round when they are so many; nothing else is told apart."""
    def forks(stamp):
        return (stamp + 1 if many is None else (stamp + 1) % many), 0
    return Rule(0, lambda stamp: stamp, forks, lambda one, other: 0, None)


def wrong_worlds():
    wrong = [(most, kind, losses) for most in range(1, 8) for kind in ("free", "pen", "trunk")
             for losses in (False, True)]
    return [world for world in wrong if world not in WORLDS] + odd_things() + odd_tuples() + [
        [4, "free", False], (4, "free", 0), (4, "free"), (3, "pen", 1), (8, "free", True),
        (4, "Pen", False), (4, ["pen"], False), (4, "free", False, 0)]


NO_NUMBERS = [0, -1, 20001, 10 ** 999, -10 ** 999, True, False, None, "1", (1,), [1], {1: 1}, (),
              nested(tuple), nested(list), two_book(), tree_rule()]


class TestRowOf(unittest.TestCase):
    def test_by_hand(self):
        book = Book(2, (1, 2, 0), ((1, 0), (2, 2), (0, 1)), ((0,) * 3,) * 3, None)
        # Forked, 2 gives 0, 0 gives 1, 1 gives 2.
        self.assertEqual(row_of(book, (4, "free", False), 9), (0, 1, 2, 0))
        self.assertEqual(row_of(book, (3, "free", True), 9), (2, 0, 1, 2))
        self.assertEqual(row_of(book, (2, "free", True), 9), (2, 0, 1, 2))
        self.assertEqual(row_of(book, (2, "free", True), 2), (2, 0, 1))
        self.assertEqual(row_of(book, (2, "free", True), 1), (2, 0))
        # Changed and forked, 0 gives 2, 1 gives 0, 2 gives 1.
        self.assertEqual(row_of(book, (4, "pen", False), 9), (0, 2, 1, 0))
        self.assertEqual(row_of(book, (3, "pen", True), 9), (2, 1, 0, 2))
        rule = Rule("a", lambda stamp: stamp + "c", lambda stamp: (stamp + "l", stamp + "r"),
                    lambda one, other: one + other, None)
        self.assertEqual(row_of(rule, (4, "free", False), 2), ("al", "all", "alll"))
        self.assertEqual(row_of(rule, (4, "pen", False), 2), ("al", "alcl", "alclcl"))
        self.assertEqual(row_of(rule, (3, "free", True), 2), ("a", "al", "all"))
        self.assertEqual(row_of(rule, (2, "pen", True), 2), ("a", "acl", "aclcl"))

    def test_a_stamp_that_comes_again_at_once(self):
        book = Book(0, (0,), ((0, 0),), ((0,),), None)
        for world in WORLDS:
            for rounds in (1, 2, 20000):
                self.assertEqual(row_of(book, world, rounds), (0, 0))

    def test_a_row_that_begins_ahead_of_its_circle(self):
        book = Book(0, (0, 1, 2, 3), ((1, 0), (2, 0), (3, 0), (2, 0)), ((0,) * 4,) * 4, None)
        self.assertEqual(row_of(book, (3, "free", True), 20000), (0, 1, 2, 3, 2))
        self.assertEqual(row_of(book, (4, "free", False), 20000), (1, 2, 3, 2))
        self.assertEqual(row_of(book, (4, "free", False), 3), (1, 2, 3, 2))
        self.assertEqual(row_of(book, (4, "free", False), 2), (1, 2, 3))

    def test_against_runs(self):
        for seed in range(40):
            book = random_book(seed, 1 + seed % 9, seed % 2 == 0)
            for world in WORLDS:
                whole = long_row(book, world, 10)
                for rounds in (1, 2, 3, 10):
                    due = []
                    for stamp in whole[:rounds + 1]:
                        due.append(stamp)
                        if due.count(stamp) == 2:
                            break
                    self.assertEqual(row_of(book, world, rounds), tuple(due))

    def test_rules_that_never_repeat(self):
        for rounds in (1, 7, 20000):
            self.assertEqual(row_of(counting_rule(), (4, "free", False), rounds),
                             tuple(range(1, rounds + 2)))
            self.assertEqual(row_of(counting_rule(), (3, "pen", True), rounds),
                             tuple(range(rounds + 1)))

    def test_stamps_of_all_sorts(self):
        names = [0, "0", (0,), ("0",), ((0,),), (), ((),), ("(1",), "(1", (0, (0,)), ((0,), 0),
                 nested(tuple), (1, 2), (12,), ("1", "2"), ("12",), (("1",), "2"), tuple(range(99000))]
        rule = Rule(names[0], lambda stamp: stamp,
                    lambda stamp: (names[(names.index(stamp) + 1) % len(names)], 0),
                    lambda one, other: one, None)
        self.assertEqual(row_of(rule, (2, "free", True), 20000), tuple(names + names[:1]))

    def test_errors_and_their_order(self):
        for book in (two_book(), counting_rule()):
            for thing in wrong_worlds():
                self.assertRaises(NoWorld, row_of, book, thing, 1)
                self.assertRaises(NoWorld, row_of, book, thing, None)
            for thing in NO_NUMBERS + odd_tuples():
                for world in WORLDS:
                    self.assertRaises(NoNumber, row_of, book, world, thing)


class TestBroken(unittest.TestCase):
    def check(self, book, world, question, rounds=20000):
        """A twin by the facts, of few deeds."""
        found = broken(book, world, question, rounds)
        self.assertIsInstance(found, tuple)
        self.assertIs(is_twin(book, world, question, found), True)
        unlike = len(set(row_of(book, world, rounds)))
        deeds = (3 if world[1] == "pen" else 2) * unlike + 8
        seen = []
        for run, copies in found:
            model, index = modelled(run, world)
            self.assertIsNone(index)
            self.assertLessEqual(len(run), deeds)
            bears = worn(book, run)
            stamps = tuple(bears[copy] for copy in copies)
            if question == ALONE:
                self.assertEqual(len(copies), 1)
                seen.append((stamps, len(model.known) == 1))
            else:
                self.assertEqual(len(set(copies)), 2)
                words = ("same", "newer", "elder", "apart")
                seen.append((stamps, question[1 + words.index(model.truth(*copies))]))
        self.assertEqual(seen[0][0], seen[1][0])
        self.assertNotEqual(seen[0][1], seen[1][1])
        return found

    def test_all_questions(self):
        for seed in range(3):
            book = random_book(seed, 4 + seed)
            for world in WORLDS:
                for question in LOOKS + [ALONE]:
                    if asked(world, question):
                        self.check(book, world, question)

    def test_many_books(self):
        self.assertEqual(len(FEW_LOOKS), 15)
        for seed in range(60):
            book = random_book(seed, 1 + seed % 13, seed % 2 == 0)
            for world in WORLDS:
                for question in FEW_LOOKS + [ALONE]:
                    if asked(world, question):
                        self.check(book, world, question)

    def test_the_made_books(self):
        """Each of them is broken where one copy more may live, or copies may be lost."""
        for book in (two_book(), nine_book(), twelve_book(), sixteen_book()):
            for world in WORLDS:
                for question in FEW_LOOKS + [ALONE]:
                    if asked(world, question):
                        self.check(book, world, question)
                        if world[0] < 4:
                            self.assertIs(serves(book, world, question), False)

    def test_long_circles(self):
        for ahead, many in ((0, 400), (399, 1), (398, 2), (200, 200)):
            halves = tuple((stamp + 1 if stamp < 399 else ahead, stamp) for stamp in range(400))
            self.assertEqual(ahead + many, 400)
            book = Book(0, tuple(range(400)), halves, ((0,) * 400,) * 400, None)
            for world in WORLDS:
                for question in [ALONE, ("look", 0, 1, 2, 3), ("look", 0, 1, 0, 0),
                                 ("look", 0, 0, 1, 0), ("look", 0, 0, 0, 1)]:
                    if asked(world, question):
                        self.check(book, world, question)

    def test_a_long_row_of_a_rule(self):
        for world in WORLDS:
            for question in (ALONE, ("look", 0, 0, 1, 0)):
                if asked(world, question):
                    self.check(counting_rule(3000), world, question, 3000)

    def test_just_enough_rounds(self):
        """None exactly if the row of so many rounds has no stamp twice."""
        for many in (1, 2, 5, 50):
            for world in WORLDS:
                for question in (ALONE, ("look", 3, 2, 1, 3)):
                    if asked(world, question):
                        for rounds in (1, many - 1, many, many + 1, 20000):
                            if rounds > 0:
                                row = row_of(counting_rule(many), world, rounds)
                                found = broken(counting_rule(many), world, question, rounds)
                                twice = len(set(row)) < len(row)
                                self.assertEqual(twice, rounds >= many)
                                self.assertEqual(found is not None, twice or world[0] == 2)

    def test_rules_that_never_repeat(self):
        for rounds in (1, 20000):
            for world in WORLDS:
                for question in (ALONE, ("look", 0, 1, 0, 1)):
                    if asked(world, question):
                        found = broken(counting_rule(), world, question, rounds)
                        self.assertEqual(found is None, world[0] != 2)

    def test_alone_with_losses_is_always_told(self):
        for book in (two_book(), counting_rule(), tree_rule(), sixteen_book()):
            for world in ((2, "free", True), (2, "pen", True)):
                found = broken(book, world, ALONE, 1)
                self.assertIs(is_twin(book, world, ALONE, found), True)
                self.assertLessEqual(max(len(run) for run, _ in found), 8)

    def test_only_changes_and_forks_of_copy_0_are_asked(self):
        """What it tells is built from the row; a look is never asked."""
        def never(*_):
            raise AssertionError()
        rule = Rule(0, lambda stamp: stamp, lambda stamp: (1 - stamp, 5), lambda one, other: 5,
                    never)
        for world in WORLDS:
            for question in FEW_LOOKS + [ALONE]:
                if asked(world, question):
                    self.check(rule, world, question)

    def test_what_it_tells_is_a_twin_that_is_there(self):
        """In worlds that can be searched, twin finds one too, and no book serves."""
        for seed in range(6):
            book = random_book(seed, 2)
            for world in WORLDS:
                for question in FEW_LOOKS + [ALONE]:
                    if asked(world, question) and world[0] < 4:
                        self.assertIsNotNone(twin(book, world, question))
                        found = broken(book, world, question, 20000)
                        self.assertTrue(has_twin(book, world, question, [run for run, _ in found]))

    def test_errors_of_functions_go_on(self):
        def wrong(*_):
            raise ZeroDivisionError()
        rule = Rule(0, lambda stamp: 0, wrong, wrong, None)
        self.assertRaises(ZeroDivisionError, row_of, rule, (3, "free", True), 1)
        self.assertRaises(ZeroDivisionError, broken, rule, (4, "pen", False), ALONE, 1)

    def test_no_world(self):
        for book in (two_book(), counting_rule()):
            for thing in wrong_worlds():
                self.assertRaises(NoWorld, broken, book, thing, ALONE, 1)
                self.assertRaises(NoWorld, broken, book, thing, None, None)

    def test_no_question(self):
        wrong = [("lots",), (), "alone", ["alone"], ("alone", 0), ("look", 0, 1, 2), ("look",),
                 ("look", 0, 1, 2, 4), ("look", 0, -1, 2, 3), ("look", True, 0, 0, 0),
                 ["look", 0, 1, 2, 3], ("Look", 0, 1, 2, 3), None, ("look", 0, 1, 2, None)]
        for book in (two_book(), counting_rule()):
            for world in WORLDS:
                things = wrong + odd_things() + odd_tuples()
                things += [one for one in LOOKS + [ALONE] if not asked(world, one)]
                for thing in things:
                    self.assertRaises(NoQuestion, broken, book, world, thing, 1)
                    self.assertRaises(NoQuestion, broken, book, world, thing, None)
        self.assertFalse(asked((3, "free", True), ALONE))
        self.assertFalse(asked((2, "free", True), ("look", 0, 1, 2, 3)))
        self.assertFalse(asked((4, "pen", False), ("look", 0, 1, 1, 2)))
        self.assertTrue(asked((4, "free", False), ("look", 0, 1, 1, 1)))

    def test_no_number(self):
        for book in (two_book(), counting_rule()):
            for world in WORLDS:
                for question in (ALONE, ("look", 0, 1, 2, 3)):
                    if asked(world, question):
                        for thing in NO_NUMBERS + odd_tuples():
                            self.assertRaises(NoNumber, broken, book, world, question, thing)

    def test_equal_calls_give_equal_twins(self):
        for world in WORLDS:
            for question in FEW_LOOKS + [ALONE]:
                if asked(world, question):
                    book = random_book(5, 6)
                    self.assertEqual(broken(book, world, question, 99),
                                     broken(book, world, question, 99))


if __name__ == "__main__":
    unittest.main()
