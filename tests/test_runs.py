"""Tests of [2] to [4], [6] and [7]: runs, worlds, what copies know."""

import copy as copying
import itertools
import unittest

from tests.reference import (FREE, WORLDS, all_deeds, modelled, nested, odd_things, odd_tuples,
                             random_run)
from threecopies.errors import NoCopies, NoCopy, NoRun, NotLet, NoWorld
from threecopies.runs import fault, is_run, known, living, lots, truth

RUN = (("fork", 0), ("change", 1), ("fork", 1), ("join", 0, 2))
WORLD = (3, "free", False)

NO_DEEDS = [
    (), ("change",), ("fork",), ("lose",), ("join",), ("join", 0), ("change", 0, 1),
    ("fork", 0, 1), ("lose", 0, 1), ("join", 0, 1, 2), ("change", -1), ("fork", -1),
    ("lose", -1), ("join", -1, 0), ("join", 0, -1), ("change", True), ("fork", False),
    ("lose", False), ("join", 0, True), ("join", False, 1), ("join", 0, 0), ("join", 3, 3),
    ("change", "0"), ("change", None), ("change", (0,)), ("join", 0, "1"), ("join", [0], [1]),
    ("Change", 0), ("", 0), ("write", 0), ("changes", 0), (0, "change"), (["change"], 0),
    (("change",), 0), (None, 0), (("change", 0), ("fork", 0)), ["change", 0], "change 0",
    "change", {"change": 0}, {0: "change", 1: 0}, 0, None, True, ("change", 10 ** 999, 1),
    ({"change": 0}, 0), ("change", nested(tuple)), (nested(list), 0), nested(dict),
]
NO_WORLDS = [
    (), (3,), (3, "free"), (3, "free", False, False), [3, "free", False], (0, "free", False),
    (8, "free", False), (-1, "pen", False), (True, "free", False), (False, "free", False),
    (10 ** 999, "free", False), ("3", "free", False), (None, "free", False), ((3,), "free", False),
    (3, "Free", False), (3, "", False), (3, "trunks", False), (3, None, False), (3, 0, False),
    (3, ["free"], False), (3, ("free",), False), (3, {"free": 0}, False), (3, True, False),
    (3, "free", 0), (3, "free", 1), (3, "free", None), (3, "free", "False"), (3, "free", ()),
    (3, "free", []), ("free", 3, False), (False, "free", 3), "free", "pen", 3, None, False,
    {0: 3, 1: "free", 2: False}, (3, nested(list), False), (nested(tuple), "free", False),
    (3, "free", nested(dict)),
]


def four_functions():
    """Each function with the arguments behind run and world that are right for RUN."""
    return [(living, ()), (known, (0,)), (truth, (0, 1)), (lots, ((0, 1),))]


class TestIsRun(unittest.TestCase):
    def test_runs(self):
        for run in [(), RUN, (("change", 0),), (("lose", 0),), (("join", 0, 1),),
                    (("change", 99), ("fork", 10 ** 999), ("join", 7, 10 ** 999), ("lose", 5)),
                    (("join", 2, 0), ("join", 0, 2)), (("change", 0),) * 30000]:
            self.assertIs(is_run(run), True)

    def test_no_runs(self):
        for deed in NO_DEEDS:
            with self.subTest(repr(deed)[:60]):
                self.assertIs(is_run((deed,)), False)
                self.assertIs(is_run((("change", 0), deed)), False)
                self.assertIs(is_run((deed, ("change", 0))), False)
        for thing in [*odd_things(), *odd_tuples(), list(RUN), ("change", 0)]:
            with self.subTest(repr(thing)[:60]):
                self.assertIs(is_run(thing), False)

    def test_empty_things_of_other_kinds(self):
        for thing in ([], {}, "", None, 0, False):
            self.assertIs(is_run(thing), False)


class TestFault(unittest.TestCase):
    def check(self, run, world, index):
        self.assertEqual(fault(run, world), index)
        self.assertIsInstance(fault(run, world), int if index is not None else type(None))

    def test_no_fault(self):
        for world in WORLDS:
            self.check((), world, None)
        self.check(RUN, WORLD, None)

    def test_copies_that_do_not_live(self):
        for deed in [("change", 1), ("fork", 1), ("lose", 1), ("join", 0, 1), ("join", 1, 0),
                     ("change", 10 ** 999)]:
            self.check((deed,), FREE, 0)
            self.check((("fork", 0), ("lose", 1), deed), FREE, 2)
        self.check((("fork", 0), ("join", 0, 1), ("change", 0), ("change", 1)), FREE, 3)
        self.check((("fork", 0), ("join", 1, 0), ("change", 1), ("change", 0)), FREE, 3)

    def test_numbers_are_not_given_again(self):
        run = (("fork", 0), ("lose", 1), ("fork", 0), ("change", 2), ("change", 1))
        self.check(run, FREE, 4)

    def test_the_last_copy_is_not_lost(self):
        self.check((("lose", 0),), (3, "free", True), 0)
        self.check((("fork", 0), ("lose", 0), ("lose", 1)), (3, "free", True), 2)
        self.check((("fork", 0), ("join", 1, 0), ("lose", 1)), (3, "pen", True), 2)

    def test_losses(self):
        for kind in ("free", "pen", "trunk"):
            self.check((("fork", 0), ("lose", 1)), (2, kind, False), 1)
            self.check((("fork", 0), ("lose", 1)), (2, kind, True), None)
            self.check((("fork", 0), ("lose", 0)), (2, kind, True), None)

    def test_no_more_than_most(self):
        for most in range(1, 8):
            forks = (("fork", 0),) * most
            self.check(forks, (most, "free", False), most - 1)
            self.check(forks[1:], (most, "free", False), None)
        run = (("fork", 0), ("fork", 0), ("join", 0, 1), ("fork", 2), ("fork", 0))
        self.check(run, (3, "free", False), 4)

    def test_the_pen(self):
        pen = (4, "pen", True)
        self.check((("change", 0), ("fork", 0), ("change", 0)), pen, None)
        self.check((("fork", 0), ("change", 1)), pen, 1)
        self.check((("fork", 0), ("join", 0, 1), ("change", 0)), pen, None)
        self.check((("fork", 0), ("join", 1, 0), ("change", 1)), pen, None)
        self.check((("fork", 0), ("fork", 0), ("join", 1, 2), ("change", 1)), pen, 3)
        self.check((("fork", 0), ("fork", 0), ("join", 1, 2), ("change", 0)), pen, None)
        run = (("fork", 0), ("join", 1, 0), ("fork", 1), ("change", 1), ("change", 2))
        self.check(run, pen, 4)

    def test_a_pen_that_is_gone(self):
        pen = (4, "pen", True)
        self.check((("fork", 0), ("lose", 0), ("change", 1)), pen, 2)
        self.check((("fork", 0), ("lose", 1), ("change", 0)), pen, None)
        run = (("fork", 0), ("fork", 1), ("lose", 0), ("join", 1, 2), ("change", 1))
        self.check(run, pen, 4)

    def test_the_trunk(self):
        trunk = (4, "trunk", True)
        two = (("fork", 0), ("fork", 0))
        self.check(two + (("fork", 1),), trunk, 2)
        self.check(two + (("join", 1, 0),), trunk, 2)
        self.check(two + (("join", 1, 2),), trunk, 2)
        self.check(two + (("join", 0, 2), ("join", 0, 1)), trunk, None)
        self.check(two + (("change", 1), ("change", 2), ("change", 0)), trunk, None)
        self.check(two + (("lose", 0), ("change", 2), ("fork", 2)), trunk, 4)

    def test_what_other_kinds_let(self):
        run = (("fork", 0), ("fork", 1), ("join", 1, 2), ("join", 1, 0), ("change", 1))
        for kind, index in (("free", None), ("pen", None), ("trunk", 1)):
            self.check(run, (3, kind, False), index)
        run = (("fork", 0), ("change", 1))
        for kind, index in (("free", None), ("pen", 1), ("trunk", None)):
            self.check(run, (3, kind, False), index)

    def test_the_first_of_many(self):
        run = (("change", 0), ("lose", 5), ("fork", 9), ("join", 4, 0))
        for world in WORLDS:
            self.check(run, world, 1)

    def test_all_short_runs(self):
        deeds = all_deeds(3)
        runs = [run for length in range(4) for run in itertools.product(deeds, repeat=length)]
        for world in WORLDS[:24]:
            for run in runs:
                self.assertEqual(fault(run, world), modelled(run, world)[1], (run, world))

    def test_long_runs_and_a_wrong_deed(self):
        for seed, world in enumerate(WORLDS):
            run = random_run(seed, world, 60)
            self.check(run, world, None)
            for copy in range(4):
                for word in ("change", "fork", "lose"):
                    for at in (3, 30, 59):
                        wrong = run[:at] + ((word, copy),) + run[at:]
                        self.check(wrong, world, modelled(wrong, world)[1])

    def test_a_run_of_one_world_in_the_others(self):
        for seed, world in enumerate(WORLDS):
            run = random_run(seed, world, 25)
            for other in WORLDS:
                self.check(run, other, modelled(run, other)[1])

    def test_wrong_things(self):
        for thing in [*odd_things(), *odd_tuples(), (("join", 1, 1),)]:
            self.assertRaises(NoRun, fault, thing, WORLD)
            self.assertRaises(NoRun, fault, thing, None)
        for world in NO_WORLDS:
            self.assertRaises(NoWorld, fault, RUN, world)
            self.assertRaises(NoWorld, fault, (("lose", 5),), world)


class TestKnowing(unittest.TestCase):
    def test_the_example_of_the_document(self):
        self.assertEqual((known(RUN, WORLD, 0), truth(RUN, WORLD, 0, 1)), ((1,), "same"))

    def test_at_first(self):
        for world in WORLDS:
            self.assertEqual(living((), world), (0,))
            self.assertEqual(known((), world, 0), ())
            self.assertEqual(lots((), world, (0,)), ())

    def test_each_word(self):
        fork = (("fork", 0),)
        for changes, word in (((), "same"), ((0,), "newer"), ((1,), "elder"), ((0, 1), "apart")):
            run = fork + tuple(("change", copy) for copy in changes)
            self.assertEqual(truth(run, WORLD, 0, 1), word)
        run = (("change", 0), ("fork", 0), ("change", 0))
        self.assertEqual(truth(run, WORLD, 0, 1), "newer")
        self.assertEqual(truth(run, WORLD, 1, 0), "elder")

    def test_changes_are_named_by_their_places_in_the_run(self):
        run = (("fork", 0), ("change", 1), ("fork", 1), ("change", 2), ("change", 1))
        self.assertEqual(known(run, FREE, 1), (1, 4))
        self.assertEqual(known(run, FREE, 2), (1, 3))
        self.assertEqual(known(run, FREE, 0), ())

    def test_halves_of_a_fork_know_the_same_and_part(self):
        run = (("change", 0), ("fork", 0), ("change", 0), ("change", 1))
        self.assertEqual(known(run, FREE, 0), (0, 2))
        self.assertEqual(known(run, FREE, 1), (0, 3))

    def test_a_join_knows_what_either_knew(self):
        run = (("fork", 0), ("change", 0), ("change", 1))
        self.assertEqual(known(run + (("join", 0, 1),), FREE, 0), (1, 2))
        self.assertEqual(known(run + (("join", 1, 0),), FREE, 1), (1, 2))
        self.assertEqual(living(run + (("join", 1, 0),), FREE), (1,))

    def test_what_is_lost_is_gone(self):
        run = (("fork", 0), ("change", 0), ("lose", 0))
        self.assertEqual(living(run, FREE), (1,))
        self.assertEqual(known(run, FREE, 1), ())

    def test_numbers_go_on_over_all_forks(self):
        run = (("fork", 0), ("join", 0, 1), ("fork", 0), ("fork", 0), ("lose", 2))
        self.assertEqual(living(run, FREE), (0, 3))

    def test_against_the_model(self):
        for seed, world in enumerate(WORLDS * 3):
            run = random_run(seed, world, 4 + 3 * (seed % 20))
            model, _ = modelled(run, world)
            copies = tuple(sorted(model.known))
            self.assertEqual(living(run, world), copies)
            for copy in copies:
                self.assertEqual(known(run, world, copy), tuple(sorted(model.known[copy])))
            for one, other in itertools.permutations(copies, 2):
                self.assertEqual(truth(run, world, one, other), model.truth(one, other))

    def test_a_run_of_many_deeds(self):
        run = (("fork", 0),) + (("change", 0), ("change", 1)) * 15000 + (("join", 1, 0),)
        self.assertEqual(known(run, FREE, 1), tuple(range(1, 30001)))
        self.assertEqual(lots(run, FREE, (1,)), ())
        self.assertEqual(lots(run[:-1], FREE, (1, 0)), ((0,), (1,)))

    def test_no_copy(self):
        run = RUN + (("fork", 0), ("lose", 1))
        self.assertEqual(living(run, FREE), (0, 3))
        for thing in [1, 2, 4, *odd_things(), *odd_tuples(), (0,), [0], "0"]:
            if thing == 0 and not isinstance(thing, bool):
                continue
            with self.subTest(repr(thing)[:60]):
                self.assertRaises(NoCopy, known, run, FREE, thing)
                self.assertRaises(NoCopy, truth, run, FREE, thing, 3)
                self.assertRaises(NoCopy, truth, run, FREE, 3, thing)
        self.assertRaises(NoCopy, truth, run, FREE, 0, 0)
        self.assertRaises(NoCopy, truth, run, FREE, 3, 3)
        self.assertRaises(NoCopy, truth, (), FREE, 0, 0)
        self.assertRaises(NoCopy, truth, (("fork", 0),), FREE, False, True)
        self.assertRaises(NoCopy, known, (("fork", 0),), FREE, True)


class TestLots(unittest.TestCase):
    def test_two_and_three_copies(self):
        run = (("fork", 0), ("change", 0), ("fork", 0), ("change", 2))
        self.assertEqual(lots(run, FREE, (0, 1, 2)), ((0, 2), (2,)))
        self.assertEqual(lots(run, FREE, (2, 1, 0)), ((0,), (0, 2)))
        self.assertEqual(lots(run, FREE, (1, 2, 0)), ((1,), (1, 2)))

    def test_what_all_know_and_what_none_knows_is_no_lot(self):
        self.assertEqual(lots((("change", 0), ("fork", 0)), FREE, (0, 1)), ())
        run = (("fork", 0), ("change", 0), ("lose", 0), ("fork", 1))
        self.assertEqual(lots(run, FREE, (1, 2)), ())

    def test_each_lot_once(self):
        run = (("fork", 0), ("change", 1), ("change", 1), ("change", 0), ("change", 1))
        self.assertEqual(lots(run, FREE, (0, 1)), ((0,), (1,)))
        self.assertEqual(lots(run, FREE, (1, 0)), ((0,), (1,)))

    def test_against_the_model_in_every_order(self):
        for seed, world in enumerate(WORLDS):
            run = random_run(seed, world, 30)
            model, _ = modelled(run, world)
            for copies in itertools.islice(itertools.permutations(sorted(model.known)), 130):
                self.assertEqual(lots(run, world, copies), model.lots(copies))

    def test_no_copies(self):
        run = (("fork", 0), ("fork", 0), ("lose", 1))
        self.assertEqual(lots(run, FREE, (2, 0)), ())
        wrong = [(), (0,), (2,), (0, 1), (0, 2, 2), (0, 0, 2), (0, 2, 3), (0, 2, 1), (0, 3),
                 [0, 2], (False, 2), (0, "2"), (0, (2,)), (0, None), (0, [2]), (0, 2, None),
                 {0: 0, 2: 2}, "02", 0, (2, nested(tuple)), (0, 10 ** 999)]
        for thing in [*wrong, *odd_things(), *odd_tuples()]:
            with self.subTest(repr(thing)[:60]):
                self.assertRaises(NoCopies, lots, run, FREE, thing)
        self.assertRaises(NoCopies, lots, (("fork", 0),), FREE, (0, True))
        self.assertRaises(NoCopies, lots, (("fork", 0),), FREE, (False, True))
        self.assertRaises(NoCopies, lots, (), FREE, (False,))


class TestErrorsAndTheirOrder(unittest.TestCase):
    def test_no_run_comes_first(self):
        for function, rest in four_functions():
            for thing in [*odd_things(), *odd_tuples(), (("join", 2, 2),), list(RUN)]:
                with self.subTest(function=function, thing=repr(thing)[:60]):
                    self.assertRaises(NoRun, function, thing, WORLD, *rest)
                    self.assertRaises(NoRun, function, thing, None, *[None for _ in rest])

    def test_no_world_comes_next(self):
        for function, rest in four_functions():
            for world in NO_WORLDS:
                with self.subTest(function=function, world=repr(world)[:60]):
                    self.assertRaises(NoWorld, function, RUN, world, *rest)
                    wrong = [None for _ in rest]
                    self.assertRaises(NoWorld, function, (("lose", 9),), world, *wrong)

    def test_then_not_let(self):
        run = RUN + (("change", 2), ("fork", 9))
        for function, rest in four_functions():
            for arguments in (rest, [None for _ in rest]):
                with self.assertRaises(NotLet) as caught:
                    function(run, WORLD, *arguments)
                self.assertEqual(caught.exception.index, 4)
            with self.assertRaises(NotLet) as caught:
                function((("fork", 0),), (1, "free", False), *rest)
            self.assertEqual(caught.exception.index, 0)

    def test_all_other_worlds_are_worlds(self):
        for function, rest in four_functions():
            function((("fork", 0),), (7, "trunk", True), *rest)
            self.assertRaises(NotLet, function, RUN, (7, "trunk", True), *rest)
            self.assertRaises(NotLet, function, RUN, (7, "pen", True), *rest)
            self.assertRaises(NotLet, function, RUN, (2, "free", True), *rest)

    def test_what_is_handed_in_is_not_changed(self):
        things = [*odd_things(), [("change", 0), ["fork", 0]], {"a": [1, {"b": ()}]}]
        things = [thing for thing in things if isinstance(thing, (list, dict))]
        before = copying.deepcopy(things)
        for thing in things:
            is_run(thing)
            for arguments in [(thing, WORLD), (RUN, thing), ((thing,), WORLD),
                              (RUN, (3, thing, False))]:
                self.assertRaises((NoRun, NoWorld), fault, *arguments)
            self.assertRaises(NoCopy, known, RUN, WORLD, thing)
            self.assertRaises(NoCopies, lots, RUN, WORLD, thing)
        self.assertEqual(things, before)

    def test_equal_calls_give_equal_results(self):
        for function, rest in four_functions():
            self.assertEqual(function(RUN, WORLD, *rest), function(RUN, WORLD, *rest))
            self.assertRaises(NotLet, function, RUN + (("lose", 0),), WORLD, *rest)
            self.assertEqual(function(RUN, WORLD, *rest), function(RUN, WORLD, *rest))

    def test_kinds_of_results(self):
        self.assertIsInstance(living(RUN, WORLD), tuple)
        self.assertIsInstance(known(RUN, WORLD, 0), tuple)
        self.assertIsInstance(lots(RUN + (("change", 0),), WORLD, (0, 1)), tuple)
        self.assertIsInstance(lots(RUN + (("change", 0),), WORLD, (0, 1))[0], tuple)


if __name__ == "__main__":
    unittest.main()
