"""Tests of [9]: twins and lies."""

import itertools
import unittest

from tests.cases import (LOOK, ALONE, LOTS, QUESTIONS, SMALL, TWO, ONE, PAIR, NO_LOOK,
                         counting_rule, odd_rule, wrong_questions, wrong_worlds)
from tests.reference import (KINDS, WORLDS, all_runs, has_twin, lying_copies, modelled, odd_things,
                             odd_tuples, random_book, random_run, runs_to_standings, sights_of,
                             tree_rule, worn)
from threecopies.books import Book, Rule
from threecopies.errors import NoLook, NoQuestion, NoWorld, TooMany
from threecopies.judging import is_lie, is_twin, lie, serves, twin


class TestTwin(unittest.TestCase):
    def check(self, book, world, question, runs):
        """Twins against all that is seen at these runs."""
        found = twin(book, world, question)
        due = has_twin(book, world, question, runs)
        self.assertEqual(found is not None, due)
        self.assertIs(serves(book, world, question), not due)
        if found is not None:
            self.assertIs(is_twin(book, world, question, found), True)
            self.check_by_facts(book, world, question, found)

    def check_by_facts(self, book, world, question, found):
        self.assertIsInstance(found, tuple)
        seen = []
        for run, copies in found:
            model, index = modelled(run, world)
            self.assertIsNone(index)
            answers = dict(sights_of(run, world, question))
            bears = worn(book, run)
            seen.append((tuple(bears[copy] for copy in copies), answers[copies]))
        (one, answer), (other, another) = seen
        self.assertEqual(one, other)
        self.assertNotEqual(answer, another)

    def test_small_worlds(self):
        for seed, world in enumerate(SMALL):
            books = [ONE, PAIR, NO_LOOK] + [random_book(100 * seed + many, many)
                                            for many in (2, 3, 4, 6)]
            for book in books:
                runs = list(runs_to_standings(book, world).values())
                for question in QUESTIONS:
                    with self.subTest(world=world, question=question):
                        self.check(book, world, question, runs)
                        self.check(odd_rule(book), world, question, runs)

    def test_worlds_of_four_copies(self):
        for world in [(4, "pen", False), (4, "trunk", False), (5, "pen", True)]:
            runs = list(runs_to_standings(ONE, world).values())
            for question in QUESTIONS:
                self.check(ONE, world, question, runs)

    def test_no_twin_in_the_runs_that_are_tried(self):
        """Where a book serves, no two of many random runs are a twin."""
        for question in (LOOK, LOTS):
            for losses in (False, True):
                for kind in KINDS:
                    world = (2, kind, losses)
                    self.assertIs(serves(PAIR, world, question), True)
                    runs = [random_run(seed, world, 12) for seed in range(60)]
                    self.assertFalse(has_twin(PAIR, world, question, runs))
                self.assertIs(serves(PAIR, (3, "free", losses), question), False)
        self.assertIs(serves(PAIR, (2, "free", False), ALONE), False)
        for world in ((1, "free", False), (1, "pen", True), (1, "trunk", False)):
            for question in QUESTIONS:
                self.assertIsNone(twin(ONE, world, question))

    def test_lots_in_another_order_of_copies_with_like_stamps(self):
        """Here it takes one run, looked at in two orders."""
        rule = Rule("a", lambda stamp: stamp, lambda stamp: (stamp, stamp),
                    lambda one, other: one, None)
        found = twin(rule, TWO, LOTS)
        self.check_by_facts(rule, TWO, LOTS, found)
        run = (("fork", 0), ("change", 1))
        self.assertIs(is_twin(rule, TWO, LOTS, ((run, (0, 1)), (run, (1, 0)))), True)
        self.assertIs(is_twin(rule, TWO, LOOK, ((run, (0, 1)), (run, (1, 0)))), True)

    def test_lots_in_another_order_alone(self):
        """Like stamps come only where one copy knows more; so just the order makes a twin."""
        book = Book(0, (0, 1, 1), ((2, 1), (1, 1), (2, 1)), ((0,) * 3,) * 3, None)
        world = (2, "pen", False)
        self.assertEqual([row[:2] for row in runs_to_standings(book, world)],
                         [((0,), ()), ((1, 2), ()), ((1, 1), ((0,),))])
        found = twin(book, world, LOTS)
        self.check_by_facts(book, world, LOTS, found)
        self.assertEqual(found[0][0], found[1][0])
        self.assertIs(serves(book, world, LOTS), False)
        self.assertIs(serves(book, world, ("look", 0, 1, 1, 0)), True)

    def test_a_look_that_tells_nothing_is_served_by_all(self):
        for answer in range(4):
            question = ("look",) + (answer,) * 4
            for book in (ONE, PAIR, random_book(3, 5)):
                self.assertIs(serves(book, (3, "free", True), question), True)

    def test_worlds_within_greater_worlds(self):
        for seed in range(10):
            book = random_book(seed, 3)
            for question in QUESTIONS:
                found = {world: twin(book, world, question) for world in SMALL}
                for (most, kind, losses), pair in found.items():
                    if pair is None:
                        continue
                    for more in range(most, 8):
                        for lost in {losses, True}:
                            for greater in {kind, "free"}:
                                world = (more, greater, lost)
                                self.assertIs(is_twin(book, world, question, pair), True)
                                if world in found:
                                    self.assertIsNotNone(found[world])

    def test_too_many(self):
        for call in (lambda rule: twin(rule, (1, "pen", True), ALONE),
                     lambda rule: serves(rule, (1, "pen", True), LOOK),
                     lambda rule: lie(rule, (1, "trunk", False))):
            rules = [Rule(0, lambda stamp, many=many: (stamp + 1) % many, None, None,
                          lambda one, other: "same") for many in (20000, 20001)]
            call(rules[0])
            with self.assertRaises(TooMany) as caught:
                call(rules[1])
            self.assertEqual(caught.exception.most, 20000)

    def test_too_many_whatever_is_found_ahead(self):
        rule = counting_rule(lambda one, other: "apart")
        for world in ((2, "free", False), (3, "pen", True), (7, "trunk", False)):
            for question in (LOOK, ALONE, LOTS):
                self.assertRaises(TooMany, twin, rule, world, question)
            self.assertRaises(TooMany, serves, rule, world, LOOK)
            self.assertRaises(TooMany, lie, rule, world)

    def test_alike_standings_are_counted_once(self):
        """Two copies that count round alone: the pairs of numbers, not their order, and the lots."""
        def counting(many):
            return Rule(0, lambda stamp: (stamp + 1) % many, lambda stamp: (0, 0),
                        lambda one, other: 0, lambda one, other: "same")
        # Many stamps of one copy. Of two: behind the fork 0, 0 and no lots; one copy changed:
        # a lot with any stamp beside 0; both changed: both lots with any pair of stamps.
        world = (2, "free", False)

        def standings_of(many):
            return many + 1 + many + many * (many + 1) // 2

        for many in (3, 5):
            due = len(runs_to_standings(counting(many), world))
            self.assertEqual(due, standings_of(many))
        self.assertLessEqual(standings_of(197), 20000)
        self.assertGreater(standings_of(198), 20000)
        self.assertIs(serves(counting(197), world, LOTS), False)
        self.assertRaises(TooMany, serves, counting(198), world, LOTS)

    def test_errors_and_their_order(self):
        for book in (PAIR, NO_LOOK, counting_rule()):
            for thing in wrong_worlds():
                self.assertRaises(NoWorld, twin, book, thing, ALONE)
                self.assertRaises(NoWorld, serves, book, thing, None)
                self.assertRaises(NoWorld, is_twin, book, thing, None, None)
            for thing in wrong_questions():
                self.assertRaises(NoQuestion, twin, book, TWO, thing)
                self.assertRaises(NoQuestion, serves, book, TWO, thing)
                self.assertRaises(NoQuestion, is_twin, book, TWO, thing, None)

    def test_equal_calls_give_equal_twins(self):
        for seed, world in enumerate(SMALL):
            for book in (random_book(seed, 4), odd_rule(random_book(seed, 4))):
                for question in QUESTIONS:
                    self.assertEqual(twin(book, world, question), twin(book, world, question))


class TestIsTwin(unittest.TestCase):
    FORKED = (("fork", 0),)
    CHANGED = FORKED + (("change", 1),)
    JOINED = CHANGED + (("join", 0, 1),)

    def test_looks(self):
        one, other = (self.FORKED, (0, 1)), (self.CHANGED, (0, 1))
        self.assertIs(is_twin(ONE, TWO, LOOK, (one, other)), True)
        self.assertIs(is_twin(ONE, TWO, LOOK, (other, one)), True)
        self.assertIs(is_twin(PAIR, TWO, LOOK, (one, other)), False)
        self.assertIs(is_twin(ONE, TWO, ("look", 0, 1, 0, 1), (one, other)), False)
        self.assertIs(is_twin(ONE, TWO, ("look", 0, 1, 1, 0), (one, other)), True)
        self.assertIs(is_twin(ONE, TWO, LOOK, (one, one)), False)
        self.assertIs(is_twin(ONE, TWO, LOOK, (other, (self.CHANGED, (1, 0)))), True)
        self.assertIs(is_twin(PAIR, TWO, LOOK, (other, (self.CHANGED, (1, 0)))), False)

    def test_alone(self):
        one, other = (self.FORKED, (0,)), ((), (0,))
        self.assertIs(is_twin(ONE, TWO, ALONE, (one, other)), True)
        self.assertIs(is_twin(PAIR, TWO, ALONE, (one, other)), True)
        self.assertIs(is_twin(PAIR, TWO, ALONE, ((self.CHANGED, (1,)), other)), False)
        self.assertIs(is_twin(PAIR, TWO, ALONE, ((self.CHANGED, (0,)), other)), True)
        self.assertIs(is_twin(PAIR, TWO, ALONE, ((self.JOINED, (0,)), other)), False)
        self.assertIs(is_twin(PAIR, TWO, ALONE, ((self.JOINED, (1,)), one)), False)

    def test_lots(self):
        one, other = (self.FORKED, (0, 1)), (self.CHANGED, (0, 1))
        self.assertIs(is_twin(ONE, TWO, LOTS, (one, other)), True)
        self.assertIs(is_twin(PAIR, TWO, LOTS, (one, other)), False)
        self.assertIs(is_twin(ONE, TWO, LOTS, (((), (0,)), (self.JOINED, (0,)))), False)
        self.assertIs(is_twin(ONE, TWO, LOTS, (((), (0,)), other)), False)
        self.assertIs(is_twin(ONE, TWO, LOTS, (other, (self.CHANGED, (1, 0)))), True)
        self.assertIs(is_twin(ONE, TWO, LOTS, (one, (self.FORKED, (1, 0)))), False)

    def test_one_thing_otherwise(self):
        """A twin with one thing changed is none."""
        right = {LOOK: (0, 1), ALONE: (0,), LOTS: (0, 1)}
        for question, copies in right.items():
            first = () if question == ALONE else self.FORKED
            one, other = (first, copies), (self.CHANGED, copies)
            self.assertIs(is_twin(ONE, TWO, question, (one, other)), True)
            wrong = [[one, other], (one,), (one, other, one), one, (one, list(other)),
                     (list(one), other), {0: one, 1: other}, (other, one + (0,)),
                     (one, (list(self.CHANGED), copies)), (one, (self.CHANGED, list(copies))),
                     (one, (self.CHANGED, copies + (0,))), (one, (self.CHANGED, copies[1:])),
                     (one, (self.CHANGED, ())), (one, (self.CHANGED, (0, 0))),
                     (one, (self.CHANGED, (0, 2))), (one, (self.CHANGED, (0, -1))),
                     (one, (self.CHANGED, (2,))), (one, (self.CHANGED, (False, 1))),
                     (one, (self.CHANGED, (0, True))), (one, (self.CHANGED, (False,))),
                     (one, (self.CHANGED, 0)), (one, (self.CHANGED, None)),
                     (one, (self.CHANGED, ((0,), 1))), (one, (self.CHANGED, {0: 0, 1: 1})),
                     (one, (self.CHANGED + (("lose", 0),), copies)),
                     (one, (self.CHANGED + (("fork", 0),), copies)),
                     (one, (self.CHANGED + (("change", 2),), copies)),
                     (one, (self.CHANGED + (("join", 1, 1),), copies)),
                     (one, (self.CHANGED + (("join", 0, 1),), copies)) if question != ALONE
                     else (one, (self.JOINED, (0,))),
                     (one, one), (other, other)]
            for thing in wrong:
                with self.subTest(question=question, thing=thing):
                    self.assertIs(is_twin(ONE, TWO, question, thing), False)

    def test_things_of_all_sorts(self):
        sight = (self.CHANGED, (0, 1))
        for thing in odd_things() + odd_tuples():
            for question in (LOOK, ALONE, LOTS):
                for pair in (thing, (thing, thing), (sight, thing), (thing, sight),
                             (sight, (thing, (0, 1))), (sight, (self.CHANGED, thing)),
                             (sight, (self.CHANGED, (0, thing))),
                             (sight, (self.CHANGED, (thing,)))):
                    if (self.FORKED, (0, 1)) != pair:
                        self.assertIs(is_twin(PAIR, TWO, question, pair), False)

    def test_the_world_counts(self):
        pair = ((self.FORKED, (0, 1)), (self.CHANGED, (0, 1)))
        self.assertIs(is_twin(ONE, (2, "trunk", False), LOOK, pair), True)
        self.assertIs(is_twin(ONE, (2, "pen", False), LOOK, pair), False)
        self.assertIs(is_twin(ONE, (1, "free", False), LOOK, pair), False)
        lost = ((self.FORKED + (("lose", 1),), (0,)), (self.FORKED, (0,)))
        self.assertIs(is_twin(ONE, (2, "pen", True), ALONE, lost), True)
        self.assertIs(is_twin(ONE, (2, "pen", False), ALONE, lost), False)

    def test_three_copies_of_lots(self):
        world = (3, "free", False)
        run = (("fork", 0), ("fork", 0), ("change", 2), ("fork", 0))
        self.assertIs(is_twin(ONE, world, LOTS, ((run[:3], (0, 1, 2)), (run[:3], (2, 1, 0)))), True)
        self.assertIs(is_twin(ONE, world, LOTS, ((run[:3], (0, 1, 2)), (run[:3], (1, 0, 2)))),
                      False)
        self.assertIs(is_twin(ONE, world, LOTS, ((run[:3], (0, 1)), (run[:3], (2, 1)))), False)
        self.assertIs(is_twin(ONE, world, LOTS, ((run, (0, 1, 2)), (run, (2, 1, 0)))), False)

    def test_too_many_standings_don_t_matter(self):
        rule = counting_rule(lambda one, other: "same")
        pair = ((self.FORKED, (0, 1)), (self.FORKED + (("join", 0, 1), ("fork", 0)), (0, 2)))
        self.assertIs(is_twin(rule, (7, "free", True), LOOK, pair), False)
        self.assertIs(is_lie(rule, (7, "free", True), (self.CHANGED, (0, 1))), True)

    def test_a_long_run(self):
        long = (("fork", 0),) + (("change", 0), ("change", 1)) * 9000
        pair = ((long, (0, 1)), (long + (("join", 0, 1), ("fork", 0)), (0, 2)))
        self.assertIs(is_twin(ONE, TWO, LOOK, pair), True)
        self.assertIs(is_twin(PAIR, TWO, LOOK, pair), False)


class TestLie(unittest.TestCase):
    def test_fewest_deeds(self):
        for seed, world in enumerate(SMALL):
            for many in (1, 2, 3, 5):
                book = random_book(50 * seed + many, many)
                runs = runs_to_standings(book, world).values()
                lying = [run for run in runs if lying_copies(book, run, world)]
                for told in (book, odd_rule(book)):
                    found = lie(told, world)
                    self.assertEqual(found is None, not lying)
                    if found is not None:
                        run, copies = found
                        self.assertEqual(len(run), min(len(other) for other in lying))
                        self.assertIn(copies, lying_copies(told, run, world))
                        self.assertIs(is_lie(told, world, found), True)

    def test_fewest_deeds_of_all_runs(self):
        """Here all runs are tried, not one for each standing."""
        for seed in range(30):
            book = random_book(seed, 3)
            world = (2 + seed % 2, KINDS[seed % 3], seed % 5 == 0)
            lying = [run for run in all_runs(world, 4) if lying_copies(book, run, world)]
            found = lie(book, world)
            if lying:
                self.assertEqual(len(found[0]), min(len(run) for run in lying))
            else:
                self.assertTrue(found is None or len(found[0]) > 4)

    def test_a_lie_behind_many_deeds(self):
        """The book counts the changes, and lies behind the tenth."""
        rule = Rule(0, lambda stamp: min(stamp + 1, 10), lambda stamp: (stamp, stamp),
                    lambda one, other: 0,
                    lambda one, other: "apart" if one == 10 else "same" if one == other
                    else "newer" if one > other else "elder")
        run, copies = lie(rule, (2, "pen", False))
        self.assertEqual(len(run), 11)
        self.assertIs(is_lie(rule, (2, "pen", False), (run, copies)), True)

    def test_no_lie(self):
        for kind in KINDS:
            for losses in (False, True):
                self.assertIsNone(lie(PAIR, (2, kind, losses)))
                self.assertIsNone(lie(ONE, (1, kind, losses)))
                self.assertIsNotNone(lie(PAIR, (3, kind, losses)))

    def test_is_lie(self):
        run = (("fork", 0), ("change", 1))
        self.assertIs(is_lie(ONE, TWO, (run, (0, 1))), True)
        self.assertIs(is_lie(ONE, TWO, (run, (1, 0))), True)
        self.assertIs(is_lie(ONE, TWO, (run[:1], (0, 1))), False)
        self.assertIs(is_lie(PAIR, TWO, (run, (0, 1))), False)
        longer = run + (("join", 0, 1), ("fork", 0), ("change", 0))
        self.assertIs(is_lie(ONE, TWO, (longer, (0, 2))), True)
        self.assertIs(is_lie(ONE, TWO, (longer, (0, 1))), False)
        half = Book(0, (0,), ((0, 0),), ((0,),), (("newer",),))
        self.assertIs(is_lie(half, TWO, (run, (0, 1))), True)
        self.assertIs(is_lie(half, TWO, (run, (1, 0))), False)
        self.assertIs(is_lie(ONE, (3, "free", True), (run + (("fork", 0),), (2, 0))), False)
        self.assertIs(is_lie(ONE, (3, "free", True), (run + (("fork", 0),), (2, 1))), True)

    def test_is_lie_against_the_model(self):
        for seed, world in enumerate(WORLDS):
            for book in (random_book(seed, 4), odd_rule(random_book(seed, 4))):
                run = random_run(seed, world, 14)
                lying = lying_copies(book, run, world)
                living = sorted(worn(book, run))
                for copies in itertools.product(range(-1, max(living) + 2), repeat=2):
                    self.assertIs(is_lie(book, world, (run, copies)), copies in lying)

    def test_one_thing_otherwise(self):
        run = (("fork", 0), ("change", 1))
        self.assertIs(is_lie(ONE, TWO, (run, (0, 1))), True)
        for thing in [[run, (0, 1)], (run,), (run, (0, 1), 0), (list(run), (0, 1)), (run, [0, 1]),
                      (run, (0,)), (run, (0, 1, 0)), (run, (1, 1)), (run, (0, 2)), (run, ()),
                      (run, (False, 1)), (run, (0, True)), (run, 1), (run, {0: 0, 1: 1}),
                      (run + (("fork", 0),), (0, 1)), (run + (("lose", 1),), (0, 1)),
                      (run + (("join", 0, 1),), (0, 1)), (run + (("x", 0),), (0, 1)),
                      {0: run, 1: (0, 1)}, (run, (0, None)), ((0, 1), run)]:
            with self.subTest(thing=thing):
                self.assertIs(is_lie(ONE, TWO, thing), False)
        for thing in odd_things() + odd_tuples():
            for sight in (thing, (thing, (0, 1)), (run, thing), (run, (0, thing)),
                          (thing, thing)):
                self.assertIs(is_lie(ONE, TWO, sight), False)

    def test_errors_and_their_order(self):
        for book in (PAIR, NO_LOOK, counting_rule(), counting_rule(lambda one, other: "same")):
            for thing in wrong_worlds():
                self.assertRaises(NoWorld, lie, book, thing)
                self.assertRaises(NoWorld, is_lie, book, thing, None)
        for book in (NO_LOOK, counting_rule(), tree_rule()):
            for world in (TWO, (7, "pen", True)):
                self.assertRaises(NoLook, lie, book, world)
                for thing in odd_things() + [((("fork", 0),), (0, 1))]:
                    self.assertRaises(NoLook, is_lie, book, world, thing)


if __name__ == "__main__":
    unittest.main()
