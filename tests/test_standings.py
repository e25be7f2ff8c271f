"""Tests of [10]: standings and closed lists."""

import itertools
import random
import unittest

from tests.cases import ALONE, ONE, PAIR, SMALL, TWO, wrong_worlds
from tests.reference import (all_standings, least, odd_things, odd_tuples, plain_behind,
                             random_book, random_run, runs_to_standings, steps_of)
from threecopies.books import Book, renamed
from threecopies.errors import NoWorld, TooMany
from threecopies.judging import is_closed, is_lot, serves, standings


class TestStandings(unittest.TestCase):
    def test_by_hand(self):
        self.assertEqual(standings(ONE, (1, "free", False)), [((0,), (), -1)])
        self.assertEqual(standings(ONE, (1, "pen", True)), [((0,), (), 0)])
        self.assertEqual(standings(ONE, TWO), [((0,), (), -1), ((0, 0), (), -1),
                                               ((0, 0), ((0,),), -1), ((0, 0), ((0,), (1,)), -1)])
        self.assertEqual(standings(ONE, (2, "pen", False)),
                         [((0,), (), 0), ((0, 0), (), 0), ((0, 0), ((0,),), 0)])
        self.assertEqual(standings(PAIR, TWO), [
            ((0,), (), -1), ((0, 0), (), -1), ((0, 1), ((1,),), -1), ((1,), (), -1),
            ((1, 1), ((0,), (1,)), -1)])
        self.assertEqual(standings(PAIR, (2, "trunk", True)), [
            ((0,), (), -1), ((0,), (), 0), ((0, 0), (), 0), ((0, 1), ((1,),), 0),
            ((0, 1), ((1,),), 1), ((1,), (), -1), ((1,), (), 0), ((1, 1), ((0,), (1,)), 0)])

    def test_against_the_runs(self):
        for seed, world in enumerate(SMALL):
            for book in [ONE, PAIR, random_book(seed, 2), random_book(seed, 3, False)]:
                with self.subTest(world=world):
                    found = standings(book, world)
                    self.assertIsInstance(found, list)
                    self.assertEqual(found, sorted(runs_to_standings(book, world)))

    def test_more_copies_against_the_runs(self):
        for world in [(4, "free", False), (4, "trunk", True), (5, "pen", True),
                      (5, "trunk", False)]:
            self.assertEqual(standings(ONE, world), sorted(runs_to_standings(ONE, world)))
        for world in [(4, "pen", True), (4, "trunk", False)]:
            book = random_book(8, 2)
            self.assertEqual(standings(book, world), sorted(runs_to_standings(book, world)))

    def test_all_runs_that_are_tried_come(self):
        for seed, world in enumerate(SMALL + [(4, "free", True), (6, "pen", True)]):
            book = random_book(seed, 2) if world[0] < 4 else ONE
            found = standings(book, world)
            for number in range(10):
                run = random_run(number, world, 15)
                self.assertIn(plain_behind(book, run, world), found)

    def test_new_names(self):
        for seed in range(15):
            world = SMALL[seed]
            book = random_book(seed, 4)
            order = tuple(random.Random(seed).sample(range(4), 4))
            due = set()
            for named, lots, mark in standings(renamed(book, order), world):
                back = tuple(order.index(stamp) for stamp in named)
                due.add(least((back, lots, mark)))
            self.assertEqual(sorted(due), standings(book, world))

    def test_seven_copies(self):
        for kind in ("pen", "trunk"):
            found = standings(ONE, (7, kind, False))
            self.assertEqual(found, sorted(set(found)))
            self.assertIs(is_closed(ONE, (7, kind, False), found), True)
            for seed in range(3):
                run = random_run(seed, (7, kind, False), 40)
                self.assertIn(plain_behind(ONE, run, (7, kind, False)), found)

    def test_too_many(self):
        """Each copy counts its changes; alike standings are counted once."""
        for many, due in ((197, 197 + 1 + 197 + 197 * 198 // 2), (198, None)):
            book = Book(0, tuple((stamp + 1) % many for stamp in range(many)), ((0, 0),) * many,
                        ((0,) * many,) * many, None)
            if due is None:
                with self.assertRaises(TooMany) as caught:
                    standings(book, TWO)
                self.assertEqual(caught.exception.most, 20000)
            else:
                self.assertEqual(len(standings(book, TWO)), due)

    def test_errors(self):
        for thing in wrong_worlds():
            self.assertRaises(NoWorld, standings, PAIR, thing)

    def test_the_list_is_new_each_time(self):
        found = standings(PAIR, TWO)
        found.clear()
        self.assertEqual(len(standings(PAIR, TWO)), 5)


class TestIsClosed(unittest.TestCase):
    def test_all_standings_are_closed(self):
        for seed, world in enumerate(SMALL):
            for book in (ONE, PAIR, random_book(seed, 3), random_book(seed, 4, False)):
                found = standings(book, world)
                self.assertIs(is_closed(book, world, found), True)

    def test_each_one_left_out(self):
        for seed, world in enumerate(SMALL):
            book = random_book(seed, 2)
            found = standings(book, world)
            for at in range(len(found)):
                self.assertIs(is_closed(book, world, found[:at] + found[at + 1:]), False)

    def test_a_greater_list_may_be_closed(self):
        """Standings for which there is no run may be listed, with all that comes of them."""
        found = standings(PAIR, TWO)
        more = ((0, 0), ((0,),), -1)
        self.assertNotIn(more, found)
        self.assertIs(is_closed(PAIR, TWO, sorted(found + [more])), False)
        self.assertIs(is_closed(PAIR, TWO, sorted(found + [
            more, ((0, 1), ((0,), (1,)), -1)])), True)
        self.assertIs(is_closed(PAIR, TWO, sorted(found + [((0, 1), ((0,), (1,)), -1)])), True)
        every = sorted({least((row, lots, -1)) for row in [(0, 0), (0, 1), (1, 1)]
                        for lots in [(), ((0,),), ((1,),), ((0,), (1,))]}
                       | {((0,), (), -1), ((1,), (), -1)})
        self.assertIs(is_closed(PAIR, TWO, every), True)
        self.assertIs(is_closed(PAIR, TWO, every[1:]), False)

    def test_the_list_of_a_greater_world(self):
        found = standings(PAIR, (3, "free", False))
        self.assertIs(is_closed(PAIR, (3, "free", False), found), True)
        self.assertIs(is_closed(PAIR, (3, "free", True), found), True)
        self.assertIs(is_closed(PAIR, TWO, found), False)
        self.assertIs(is_closed(PAIR, (4, "free", False), found), False)
        self.assertIs(is_closed(PAIR, (3, "pen", False), found), False)
        self.assertIs(is_closed(ONE, (3, "free", False), found), False)

    def test_marks(self):
        trunk = standings(PAIR, (2, "trunk", False))
        self.assertIs(is_closed(PAIR, (2, "trunk", False), trunk), True)
        self.assertIs(is_closed(PAIR, (2, "trunk", True), trunk), False)
        lost = standings(PAIR, (2, "trunk", True))
        self.assertIs(is_closed(PAIR, (2, "trunk", True), lost), True)
        self.assertIs(is_closed(PAIR, (2, "trunk", False), lost), False)
        self.assertIs(is_closed(PAIR, (2, "trunk", False), [one for one in lost if one[2] >= 0]),
                      True)
        self.assertIs(is_closed(PAIR, (2, "free", True), lost), False)
        free = standings(PAIR, TWO)
        for world in ((2, "trunk", False), (2, "trunk", True), (2, "pen", True)):
            self.assertIs(is_closed(PAIR, world, free), False)

    def test_lists_of_any_standings(self):
        """Lists that hold many standings for which there is no run."""
        worlds = [world for world in SMALL if world[0] < 3] + [(3, "pen", False)]
        for seed, world in enumerate(worlds):
            rng = random.Random(seed)
            many = 2 if world[0] < 3 else 1
            book = random_book(seed, many)
            every = [standing for copies in range(1, world[0] + 1)
                     for standing in all_standings(many, copies, world)]
            self.assertIs(is_closed(book, world, sorted(every)), True)
            for _ in range(8):
                listed = set(standings(book, world))
                waiting = rng.sample(every, min(2, len(every)))
                while waiting:
                    standing = waiting.pop()
                    if standing not in listed:
                        listed.add(standing)
                        waiting += steps_of(book, standing, world)
                self.assertIs(is_closed(book, world, sorted(listed)), True)
                for standing in listed:
                    less = sorted(listed - {standing})
                    due = ((book.first,), (), -1 if world[1] == "free" else 0) in less and all(
                        steps_of(book, other, world) <= set(less) for other in less)
                    self.assertIs(is_closed(book, world, less), due)

    def test_wrong_standings_that_are_closed(self):
        """All that comes of them is listed; what is wrong is their form alone."""
        free = standings(ONE, TWO)
        self.assertEqual(free[0], ((0,), (), -1))
        lots = [(), ((0,),), ((0,), (1,))]
        for more in [[((0, 0), tuple(sorted((*some, (0, 1)))), -1) for some in lots],
                     [((0, 0), tuple(sorted((*some, ()))), -1) for some in lots],
                     [((0,), (), 0), ((0, 0), (), 0), ((0, 0), ((0,),), 0), ((0, 0), ((0,),), 1),
                      ((0, 0), ((0,), (1,)), 0)],
                     [((0, 0), ((0,), (0,)), -1), ((0, 0), ((0,), (0,), (1,)), -1)],
                     [((0, 0), ((1,),), -1)]]:
            self.assertIs(is_closed(ONE, TWO, sorted(free + more)), False)
        for kind in ("pen", "trunk"):
            found = standings(PAIR, (2, kind, False))
            self.assertIs(is_closed(PAIR, (2, kind, False), sorted(
                found + [((0,), (), -1), ((1,), (), -1)])), False)
        trunk = standings(ONE, (2, "trunk", True))
        self.assertIs(is_closed(ONE, (2, "trunk", True), sorted(
            trunk + [((0, 0), some, -1) for some in lots])), True)

    def test_what_a_lot_is(self):
        for lot in [(0,), (3,), (0, 1), (1, 3), (0, 1, 2), (1, 2, 3)]:
            self.assertIs(is_lot(lot, 4), True)
        for lot in [(), (0, 1, 2, 3), (4,), (-1,), (0, 0), (1, 0), (0, 4), (True,), (0, True),
                    ("0",), [0], 0, None, (0, (1,)), (0, None)]:
            self.assertIs(is_lot(lot, 4), False)
        self.assertIs(is_lot((0,), 1), False)

    def check_wrong(self, book, world, things):
        found = standings(book, world)
        self.assertIs(is_closed(book, world, found), True)
        for thing in things:
            self.assertIs(is_closed(book, world, [thing]), False)
            for at in range(len(found) + 1):
                listed = found[:at] + [thing] + found[at:]
                with self.subTest(thing=repr(thing)[:60]):
                    self.assertIs(is_closed(book, world, listed), False)

    def test_wrong_standings(self):
        free = [((0, 0), (), 0), ((0, 0), (), -2), ((0, 0), (), None), ((0, 0), (), True),
                ((0, 0), ()), ((0, 0), (), -1, 0), [(0, 0), (), -1], ([0, 0], (), -1),
                ((0, 0), [], -1), ((0, 0), ((1,),), -1), ((1, 0), (), -1), ((), (), -1),
                ((0, 2), (), -1), ((0, -1), (), -1), ((False, 0), (), -1), ((0, "0"), (), -1),
                ((0, 0, 0), (), -1), ((0, 0), ((),), -1), ((0, 0), ((0, 1),), -1),
                ((0, 0), ((0,), (0,)), -1), ((0, 1), ((1,), (0,)), -1), ((0, 0), ([0],), -1),
                ((0, 0), ((2,),), -1), ((0, 0), ((-1,),), -1), ((0, 0), ((False,),), -1),
                ((0, 0), (0,), -1), ((0, 0), "0", -1), (0, (), -1), ("00", (), -1), None, 0,
                ((0,), ((0,),), -1), ((0, 0), {0: (0,)}, -1), ((0, 0), (), (-1,))]
        self.check_wrong(PAIR, TWO, free)
        self.check_wrong(PAIR, (2, "trunk", False), [((0,), (), -1), ((0, 0), (), -1),
                                                     ((0, 0), (), 1), ((0, 0), (), 2)])
        self.check_wrong(PAIR, (2, "pen", True), [((0,), (), 1), ((0, 0), (), -2),
                                                  ((0, 0), (), 1), ((0, 0), (), False)])
        three = [((0, 0, 0), ((1, 0),), -1), ((0, 0, 0), ((0, 0),), -1),
                 ((0, 0, 0), ((0, 1, 2),), -1), ((0, 0, 0), ((0, 2),), -1),
                 ((0, 0, 0), ((0,), (0, 2)), -1), ((0, 0, 0), ((0, 1), (2,), (0,)), -1)]
        self.check_wrong(ONE, (3, "free", False), three)

    def test_wrong_lists(self):
        found = standings(PAIR, TWO)
        for thing in [tuple(found), found[::-1], found + found[-1:], found[:1] + found,
                      [found], {one: True for one in found}, [], found[1:], found[:1],
                      found[1:2] + found[:1] + found[2:]]:
            self.assertIs(is_closed(PAIR, TWO, thing), False)
        for thing in odd_things() + odd_tuples():
            self.assertIs(is_closed(PAIR, TWO, thing), False)
            self.assertIs(is_closed(PAIR, TWO, [thing]), False)
            for at in range(len(found) + 1):
                self.assertIs(is_closed(PAIR, TWO, found[:at] + [thing] + found[at:]), False)

    def test_plain_is_least(self):
        """Of all standings of four copies with one stamp just the least are taken."""
        world = (4, "pen", False)
        found = standings(ONE, world)
        for standing in found:
            for order in itertools.permutations(range(len(standing[0]))):
                place = {old: new for new, old in enumerate(order)}
                other = (standing[0], tuple(sorted(tuple(sorted(place[at] for at in lot))
                                                   for lot in standing[1])), place[standing[2]])
                if other != standing:
                    self.assertIs(is_closed(ONE, world, sorted(found + [other])), False)

    def test_too_many_standings_don_t_matter(self):
        self.assertIs(is_closed(ONE, (7, "free", True), [((0,), (), -1)]), False)

    def test_nothing_is_changed(self):
        found = standings(PAIR, TWO)
        listed = list(found)
        is_closed(PAIR, TWO, listed)
        self.assertEqual(listed, found)

    def test_errors(self):
        for thing in wrong_worlds():
            self.assertRaises(NoWorld, is_closed, PAIR, thing, [])
            self.assertRaises(NoWorld, is_closed, PAIR, thing, None)

    def test_the_fact(self):
        """A closed list without copies of like stamps and unlike answers proves a book."""
        for seed, world in enumerate(SMALL):
            for book in (PAIR, random_book(seed, 3)):
                found = standings(book, world)
                answers = {}
                right = True
                for row, _, _ in found:
                    for stamp in row:
                        if answers.setdefault(stamp, len(row) == 1) != (len(row) == 1):
                            right = False
                self.assertIs(serves(book, world, ALONE), right)


if __name__ == "__main__":
    unittest.main()
