"""Tests of [2] to [4] and [8]: books, rules, and the stamps that copies bear."""

import itertools
import random
import unittest

from tests.reference import (FREE, WORDS, WORLDS, by_book, modelled, nested, odd_things,
                             odd_tuples, random_book, random_run, tree_rule)
from threecopies.books import Book, Rule, renamed, said, stamps
from threecopies.errors import BadBook, NoCopy, NoLook, NoOrder, NoRun, NotLet, NoWorld

# A book of two stamps: 1 stands for a copy that was changed.
FIRST = 0
CHANGES = (1, 1)
FORKS = ((0, 0), (1, 0))
JOINS = ((0, 1), (1, 1))
LOOKS = (("same", "elder"), ("newer", "apart"))
PARTS = ("changes", "first", "forks", "joins", "looks")
ONE = (0, (0,), ((0, 0),), ((0,),), (("same",),))
RUN = (("fork", 0), ("change", 1), ("fork", 1))
WORLD = (3, "free", False)


def two(looks=LOOKS):
    return Book(FIRST, CHANGES, FORKS, JOINS, looks)


def big_parts(many):
    changes = tuple((stamp + 1) % many for stamp in range(many))
    row = tuple(range(many))
    return (many - 1, changes, tuple((stamp, many - 1) for stamp in range(many)),
            (row,) * many, (("apart",) * many,) * many)


def wrong_rows(length, item, spoilt):
    """Things that are no tuple of so many items; spoilt are wrong items."""
    right = (item,) * length
    wrong = [right + (item,), right[1:], list(right), (), dict(enumerate(right))]
    wrong += [right[:at] + (thing,) + right[at + 1:] for at in range(length) for thing in spoilt]
    return wrong


NO_STAMPS = [-1, 2, 10 ** 999, True, False, None, "0", (0,), [0], {0: 0}, nested(tuple),
             nested(list), two(), tree_rule()]
NO_WORDS = ["", "s", "Same", "older", None, 0, True, ("same",), ["same"], {"same": 0},
            nested(tuple), two()]
WRONG = {
    "first": NO_STAMPS + odd_tuples(),
    "changes": [(), [1, 1], {0: 1, 1: 1}, "11", (0,) * 401, (0,) * 50000]
    + [row for thing in NO_STAMPS for row in ((0, thing), (thing, 0))],
    "forks": wrong_rows(2, (0, 0), wrong_rows(2, 0, NO_STAMPS) + [0, "00", None]),
    "joins": wrong_rows(2, (0, 0), wrong_rows(2, 0, NO_STAMPS) + [0, "00", None]),
    "looks": wrong_rows(2, ("same", "same"), wrong_rows(2, "same", NO_WORDS) + [0, "ss", None])
    + ["looks", LOOKS[0], "ssss", ("same", "newer")],
}


class TestBook(unittest.TestCase):
    def check_bad(self, arguments, part):
        with self.assertRaises(BadBook) as caught:
            Book(*arguments)
        self.assertEqual(caught.exception.part, part)

    def test_attributes(self):
        for parts in [ONE, (FIRST, CHANGES, FORKS, JOINS, LOOKS), (*ONE[:4], None),
                      big_parts(3), big_parts(399), big_parts(400)]:
            book = Book(*parts)
            held = (book.first, book.changes, book.forks, book.joins, book.looks)
            self.assertEqual(held, parts)

    def test_every_stamp_and_every_word_may_stand_everywhere(self):
        for seed in range(20):
            book = random_book(seed, 1 + seed)
            parts = (book.first, book.changes, book.forks, book.joins, book.looks)
            self.assertEqual(Book(*parts), book)

    def test_none_and_too_many(self):
        self.check_bad((0, (), (), (), ()), "changes")
        self.check_bad((0, (), (), (), None), "changes")
        self.check_bad(big_parts(401), "changes")
        self.check_bad((0, (0,) * 401, ((0, 0),) * 401, ((0,) * 401,) * 401, None), "changes")

    def test_each_part_wrong_in_turn(self):
        right = {"first": FIRST, "changes": CHANGES, "forks": FORKS, "joins": JOINS,
                 "looks": LOOKS}
        for part in PARTS:
            for thing in [*WRONG[part], *odd_things()]:
                if thing is None and part == "looks":
                    continue
                parts = dict(right)
                parts[part] = thing
                with self.subTest(part, thing=repr(thing)[:60]):
                    self.check_bad([parts[name] for name in right], part)

    def test_two_parts_wrong_at_once(self):
        right = {"first": FIRST, "changes": CHANGES, "forks": FORKS, "joins": JOINS,
                 "looks": LOOKS}
        for one, other in itertools.combinations(PARTS, 2):
            for thing, another in [("x", "x"), ((), ()), ([], 10 ** 999), (-1, False)]:
                parts = dict(right)
                parts[one] = thing
                parts[other] = another
                self.check_bad([parts[name] for name in right], one)
        self.check_bad((2, (2, 0), (), (), ()), "changes")
        self.check_bad((2, (0, 0), (), (), ()), "first")
        self.check_bad((None,) * 5, "changes")

    def test_what_a_stamp_is_is_told_by_the_length_of_changes(self):
        self.check_bad((1, (0,), ((0, 0),), ((0,),), None), "first")
        self.check_bad((0, (1,), ((0, 0),), ((0,),), None), "changes")
        self.check_bad((0, (0,), ((0, 1),), ((0,),), None), "forks")
        self.check_bad((0, (0,), ((0, 0),), ((1,),), None), "joins")
        self.check_bad((0, (0,), ((0, 0),), ((0,),), (("none",),)), "looks")
        self.check_bad((0, (0,), ((0, 0), (0, 0)), ((0,),), None), "forks")
        self.check_bad((0, (0,), ((0, 0),), ((0, 0),), None), "joins")
        self.check_bad((0, (0,), ((0, 0),), ((0,),), (("same", "same"),)), "looks")

    def test_a_wrong_part_is_not_changed(self):
        rows = [[0, 1], {"a": [1]}]
        self.check_bad((FIRST, CHANGES, rows, JOINS, LOOKS), "forks")
        self.assertEqual(rows, [[0, 1], {"a": [1]}])

    def test_equality(self):
        self.assertEqual(two(), two())
        self.assertFalse(two() != two())
        self.assertEqual(two(None), two(None))
        others = [Book(1, CHANGES, FORKS, JOINS, LOOKS), Book(FIRST, (1, 0), FORKS, JOINS, LOOKS),
                  Book(FIRST, CHANGES, ((0, 0), (1, 1)), JOINS, LOOKS),
                  Book(FIRST, CHANGES, FORKS, ((0, 1), (1, 0)), LOOKS),
                  Book(FIRST, CHANGES, FORKS, JOINS, (LOOKS[0], ("newer", "same"))),
                  two(None), Book(*ONE)]
        for other in others:
            self.assertFalse(two() == other)
            self.assertTrue(two() != other)
        for thing in [*odd_things(), *odd_tuples(), (FIRST, CHANGES, FORKS, JOINS, LOOKS)]:
            self.assertFalse(two() == thing)
            self.assertFalse(thing == two())

    def test_equality_of_big_books(self):
        self.assertEqual(Book(*big_parts(400)), Book(*big_parts(400)))
        parts = list(big_parts(400))
        parts[4] = parts[4][:399] + (("apart",) * 399 + ("same",),)
        self.assertNotEqual(Book(*big_parts(400)), Book(*parts))


class TestRule(unittest.TestCase):
    def test_attributes(self):
        functions = [lambda stamp: stamp, lambda stamp: (stamp, stamp),
                     lambda one, other: one, lambda one, other: "same"]
        for first in (0, -5, "a", (), ("a", (1, ()))):
            rule = Rule(first, *functions)
            self.assertIs(rule.first, first)
            held = [rule.changes, rule.forks, rule.joins, rule.looks]
            self.assertTrue(all(one is other for one, other in zip(held, functions)))
        self.assertIsNone(Rule(0, *functions[:3], None).looks)

    def test_rules_are_equal_only_if_they_are_one(self):
        functions = [lambda stamp: stamp, lambda stamp: (stamp, stamp),
                     lambda one, other: one, lambda one, other: "same"]
        rule = Rule(0, *functions)
        self.assertTrue(rule == rule)
        self.assertFalse(rule != rule)
        self.assertFalse(rule == Rule(0, *functions))
        self.assertTrue(rule != Rule(0, *functions))
        self.assertFalse(rule == two())
        self.assertFalse(two() == rule)

    def test_nothing_is_called_when_a_rule_is_made(self):
        def never(*stamp):
            raise AssertionError(stamp)
        Rule("a", never, never, never, never)


class TestStamps(unittest.TestCase):
    def test_at_first(self):
        self.assertEqual(stamps(two(), (), WORLD), {0: 0})
        self.assertEqual(stamps(tree_rule(), (), WORLD), {0: "o"})

    def test_a_small_book(self):
        self.assertEqual(stamps(two(), RUN, WORLD), {0: 0, 1: 1, 2: 0})
        self.assertEqual(stamps(two(), RUN + (("join", 2, 1),), WORLD), {0: 0, 2: 1})
        self.assertEqual(stamps(two(), RUN + (("lose", 1),), FREE), {0: 0, 2: 0})

    def test_halves_and_sides_are_not_mixed_up(self):
        rule = tree_rule()
        run = (("fork", 0), ("change", 1), ("join", 1, 0))
        left, right = ("fork 0", "o"), ("fork 1", "o")
        self.assertEqual(stamps(rule, run[:1], WORLD), {0: left, 1: right})
        self.assertEqual(stamps(rule, run, WORLD), {1: ("join", ("change", right), left)})
        self.assertEqual(stamps(rule, run[:2] + (("join", 0, 1),), WORLD),
                         {0: ("join", left, ("change", right))})

    def test_numbers_of_copies_go_on(self):
        run = (("fork", 0), ("join", 0, 1), ("fork", 0), ("lose", 0), ("fork", 2))
        self.assertEqual(sorted(stamps(two(), run, FREE)), [2, 3])

    def test_against_the_model(self):
        for seed, world in enumerate(WORLDS * 2):
            run = random_run(seed, world, 16)
            model, _ = modelled(run, world)
            self.assertEqual(stamps(tree_rule(), run, world), model.tree)
            for many in (1, 2, 5, 12):
                book = random_book(seed, many, with_looks=seed % 2 == 0)
                due = {copy: by_book(book, tree) for copy, tree in model.tree.items()}
                self.assertEqual(stamps(book, run, world), due)

    def test_rules_with_stamps_of_each_kind(self):
        counting = Rule(-3, lambda stamp: stamp + 1, lambda stamp: (stamp, -stamp),
                        lambda one, other: one * 10 + other, None)
        self.assertEqual(stamps(counting, RUN, WORLD), {0: -3, 1: 4, 2: -4})
        texts = Rule("", lambda stamp: stamp + "c", lambda stamp: (stamp + "l", stamp + "r"),
                     lambda one, other: one + other, None)
        self.assertEqual(stamps(texts, RUN + (("join", 2, 0),), WORLD), {1: "rcl", 2: "rcrl"})
        pairs = Rule((0, ()), lambda stamp: (stamp[0] + 1, stamp[1]),
                     lambda stamp: (stamp, (stamp[0], (stamp[1],))),
                     lambda one, other: (one, other), None)
        self.assertEqual(stamps(pairs, RUN, WORLD),
                         {0: (0, ()), 1: (1, ((),)), 2: (1, (((),),))})

    def test_deep_and_wide_stamps(self):
        deep = nested(tuple)
        wide = tuple(range(99000))
        rule = Rule(deep, lambda stamp: wide, lambda stamp: (stamp, deep),
                    lambda one, other: other, None)
        self.assertEqual(stamps(rule, RUN, WORLD), {0: deep, 1: wide, 2: deep})

    def test_a_rule_that_reads_a_book(self):
        book = random_book(7, 9)
        rule = Rule(book.first, lambda stamp: book.changes[stamp],
                    lambda stamp: book.forks[stamp],
                    lambda one, other: book.joins[one][other],
                    lambda one, other: book.looks[one][other])
        for seed, world in enumerate(WORLDS):
            run = random_run(seed, world, 20)
            due = stamps(book, run, world)
            self.assertEqual(stamps(rule, run, world), due)
            for one, other in itertools.permutations(due, 2):
                word = book.looks[due[one]][due[other]]
                self.assertEqual(said(book, run, world, one, other), word)
                self.assertEqual(said(rule, run, world, one, other), word)

    def test_a_long_run(self):
        run = (("fork", 0), ("change", 1), ("join", 0, 1)) + (("change", 0),) * 30000
        self.assertEqual(stamps(Book(*big_parts(400)), run, WORLD), {0: 30000 % 400})

    def test_the_dict_is_new_each_time(self):
        found = stamps(two(), RUN, WORLD)
        self.assertIsInstance(found, dict)
        found.clear()
        found[0] = "x"
        self.assertEqual(stamps(two(), RUN, WORLD), {0: 0, 1: 1, 2: 0})

    def test_errors_and_their_order(self):
        for book in (two(), two(None), tree_rule()):
            for thing in [*odd_things(), *odd_tuples(), list(RUN), (("join", 1, 1),)]:
                self.assertRaises(NoRun, stamps, book, thing, WORLD)
                self.assertRaises(NoRun, stamps, book, thing, None)
            for thing in [*odd_things(), *odd_tuples(), list(WORLD), (8, "free", False)]:
                self.assertRaises(NoWorld, stamps, book, RUN, thing)
                self.assertRaises(NoWorld, stamps, book, (("lose", 9),), thing)
            with self.assertRaises(NotLet) as caught:
                stamps(book, RUN, (3, "pen", False))
            self.assertEqual(caught.exception.index, 1)
            with self.assertRaises(NotLet) as caught:
                stamps(book, RUN + (("fork", 0),), WORLD)
            self.assertEqual(caught.exception.index, 3)


class TestSaid(unittest.TestCase):
    def test_each_word(self):
        run = (("fork", 0), ("change", 1), ("fork", 0), ("fork", 0), ("change", 3))
        world = (4, "free", False)
        self.assertEqual(stamps(two(), run, world), {0: 0, 1: 1, 2: 0, 3: 1})
        for one, other, word in ((0, 2, "same"), (1, 2, "newer"), (0, 3, "elder"),
                                 (1, 3, "apart")):
            self.assertEqual(said(two(), run, world, one, other), word)

    def test_what_the_look_says_is_said_true_or_not(self):
        looks = tuple(tuple(WORDS[(3 * one + other) % 4] for other in range(3)) for one in range(3))
        book = Book(0, (0, 1, 2), ((1, 2), (0, 0), (0, 0)), ((0,) * 3,) * 3, looks)
        run = (("fork", 0),)
        self.assertEqual(said(book, run, WORLD, 0, 1), looks[1][2])
        self.assertEqual(said(book, run, WORLD, 1, 0), looks[2][1])
        self.assertNotEqual(looks[1][2], looks[2][1])

    def test_a_rule(self):
        asked = []

        def look(one, other):
            asked.append((one, other))
            return "newer"
        rule = tree_rule(look)
        self.assertEqual(said(rule, (("fork", 0),), WORLD, 1, 0), "newer")
        self.assertEqual(asked, [(("fork 1", "o"), ("fork 0", "o"))])

    def test_no_copy(self):
        run = RUN[:2] + (("lose", 0), ("fork", 1))
        for book in (two(), two(None), tree_rule()):
            for thing in [0, 3, -1, *odd_things(), *odd_tuples()]:
                self.assertRaises(NoCopy, said, book, run, FREE, thing, 2)
                self.assertRaises(NoCopy, said, book, run, FREE, 2, thing)
            self.assertRaises(NoCopy, said, book, run, FREE, 2, 2)
            self.assertRaises(NoCopy, said, book, run, FREE, True, 2)
            self.assertRaises(NoCopy, said, book, run, FREE, 2, True)

    def test_no_look(self):
        for book in (two(None), tree_rule()):
            self.assertRaises(NoLook, said, book, RUN, WORLD, 0, 1)

    def test_order_of_errors(self):
        for book in (two(), two(None), tree_rule()):
            for thing in [*odd_things(), list(RUN)]:
                self.assertRaises(NoRun, said, book, thing, None, None, None)
            for thing in [*odd_things(), list(WORLD)]:
                self.assertRaises(NoWorld, said, book, (("lose", 9),), thing, None, None)
            with self.assertRaises(NotLet) as caught:
                said(book, RUN, (3, "trunk", False), None, None)
            self.assertEqual(caught.exception.index, 2)
            self.assertRaises(NoCopy, said, book, RUN, WORLD, 0, 3)


class Own(Exception):
    pass


class TestErrorsOfFunctions(unittest.TestCase):
    def test_they_go_on(self):
        def fails(*stamp):
            raise Own(stamp)
        rule = tree_rule()
        run = RUN + (("join", 0, 2),)
        for at in range(4):
            functions = [rule.changes, rule.forks, rule.joins, lambda one, other: "same"]
            functions[at] = fails
            self.assertRaises(Own, said, Rule("o", *functions), run, WORLD, 0, 1)
        for error in (ValueError, KeyError, IndexError, TypeError, LookupError, RuntimeError,
                      StopIteration, AttributeError, NotLet):
            def raises(*stamp):
                raise error(3)
            rule = Rule("o", raises, tree_rule().forks, tree_rule().joins, raises)
            self.assertRaises(error, stamps, rule, RUN, WORLD)
            self.assertRaises(error, said, rule, RUN, WORLD, 0, 1)
            self.assertRaises(error, said, rule, (("fork", 0),), WORLD, 0, 1)

    def test_arguments_are_checked_ahead_of_all_calls(self):
        def fails(*stamp):
            raise Own(stamp)
        rule = Rule(0, fails, fails, fails, fails)
        self.assertRaises(NoWorld, stamps, rule, RUN, None)
        self.assertRaises(NotLet, stamps, rule, RUN + (("lose", 0),), WORLD)
        self.assertRaises(NoCopy, said, rule, RUN, WORLD, 0, 3)
        self.assertRaises(NoCopy, said, rule, RUN, WORLD, 3, 0)
        self.assertRaises(NoLook, said, Rule(0, fails, fails, fails, None), RUN, WORLD, 0, 1)

    def test_only_what_is_needed_is_asked(self):
        def fails(*stamp):
            raise Own(stamp)
        rule = Rule(5, fails, lambda stamp: (stamp, stamp), fails, fails)
        self.assertEqual(stamps(rule, (("fork", 0),), WORLD), {0: 5, 1: 5})


class TestRenamed(unittest.TestCase):
    def test_a_small_book(self):
        book = renamed(two(), (1, 0))
        self.assertEqual(book.first, 1)
        self.assertEqual(book.changes, (0, 0))
        self.assertEqual(book.forks, ((0, 1), (1, 1)))
        self.assertEqual(book.joins, ((0, 0), (0, 1)))
        self.assertEqual(book.looks, (("apart", "newer"), ("elder", "same")))
        self.assertEqual(renamed(book, (1, 0)), two())

    def test_a_turn_of_three(self):
        book = random_book(3, 3)
        order = (1, 2, 0)
        new = renamed(book, order)
        self.assertEqual(new.first, order[book.first])
        for one in range(3):
            self.assertEqual(new.changes[order[one]], order[book.changes[one]])
            self.assertEqual(new.forks[order[one]], tuple(order[half] for half in book.forks[one]))
            for other in range(3):
                self.assertEqual(new.joins[order[one]][order[other]], order[book.joins[one][other]])
                self.assertEqual(new.looks[order[one]][order[other]], book.looks[one][other])

    def test_each_copy_bears_the_new_name(self):
        for seed, world in enumerate(WORLDS):
            many = 1 + seed % 11
            order = list(range(many))
            random.Random(seed).shuffle(order)
            book = random_book(seed, many)
            new = renamed(book, tuple(order))
            run = random_run(seed, world, 20)
            due = {copy: order[stamp] for copy, stamp in stamps(book, run, world).items()}
            self.assertEqual(stamps(new, run, world), due)
            for one, other in itertools.permutations(due, 2):
                self.assertEqual(said(new, run, world, one, other),
                                 said(book, run, world, one, other))

    def test_the_same_names(self):
        for seed in range(10):
            book = random_book(seed, 1 + seed)
            self.assertEqual(renamed(book, tuple(range(1 + seed))), book)

    def test_without_a_look(self):
        self.assertIsNone(renamed(two(None), (1, 0)).looks)
        self.assertEqual(renamed(two(None), (1, 0)).joins, ((0, 0), (0, 1)))

    def test_one_stamp_and_four_hundred(self):
        self.assertEqual(renamed(Book(*ONE), (0,)), Book(*ONE))
        book = Book(*big_parts(400))
        order = tuple(range(399, -1, -1))
        self.assertEqual(renamed(renamed(book, order), order), book)
        self.assertEqual(renamed(book, order).first, 0)

    def test_the_book_is_not_changed(self):
        book = two()
        new = renamed(book, (1, 0))
        self.assertEqual(book, two())
        self.assertIsInstance(new, Book)

    def test_no_order(self):
        wrong = [(), (0,), (0, 0), (1, 1), (0, 2), (1, 2), (-1, 0), (0, -1), (0, 1, 2), (0, 1, 1),
                 (0, 1, 0), [0, 1], [1, 0], (0, True), (False, 1), (True, False), (0, "1"),
                 (0, None), (0, (1,)), (0, [1]), "01", {0: 0, 1: 1}, (0, 10 ** 999), 1, 2,
                 (nested(tuple), 0), (0, nested(list)), two(), tree_rule()]
        for thing in [*wrong, *odd_things(), *odd_tuples()]:
            with self.subTest(repr(thing)[:60]):
                self.assertRaises(NoOrder, renamed, two(), thing)
                self.assertRaises(NoOrder, renamed, two(None), thing)
        self.assertRaises(NoOrder, renamed, Book(*ONE), (False,))
        self.assertRaises(NoOrder, renamed, Book(*ONE), 0)
        self.assertRaises(NoOrder, renamed, random_book(1, 4), (0, 1, 1, 2))
        self.assertRaises(NoOrder, renamed, random_book(1, 4), (0, 0, 3, 3))

    def test_a_wrong_order_is_not_changed(self):
        order = [1, [0]]
        self.assertRaises(NoOrder, renamed, two(), order)
        self.assertEqual(order, [1, [0]])


if __name__ == "__main__":
    unittest.main()
