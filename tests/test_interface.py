"""Tests of [17]: the names, the arguments and the places of the interface."""

import importlib
import inspect
import unittest

from tests.reference import random_book, tree_rule

FUNCTIONS = {
    "threecopies.runs": {
        "is_run": ["thing"], "fault": ["run", "world"], "living": ["run", "world"],
        "known": ["run", "world", "copy"], "truth": ["run", "world", "one", "other"],
        "lots": ["run", "world", "copies"],
    },
    "threecopies.books": {
        "stamps": ["book", "run", "world"], "said": ["book", "run", "world", "one", "other"],
        "renamed": ["book", "order"],
    },
    "threecopies.judging": {
        "taken_down": ["book", "world"], "twin": ["book", "world", "question"],
        "lie": ["book", "world"], "is_twin": ["book", "world", "question", "thing"],
        "is_lie": ["book", "world", "thing"], "serves": ["book", "world", "question"],
        "is_closed": ["book", "world", "thing"], "standings": ["book", "world"],
    },
    "threecopies.breaking": {
        "broken": ["book", "world", "question", "rounds"], "row_of": ["book", "world", "rounds"],
    },
    "threecopies.makers": {
        "two_book": [], "nine_book": [], "twelve_book": [], "sixteen_book": [],
        "trunk_rule": ["most"],
    },
    "threecopies.telling": {
        "truths": ["book", "world", "one", "other"], "run_to": ["book", "world", "stamps"],
        "parting": ["one", "other", "world"],
    },
    "threecopies.notebook": {"replayed": ["book", "most", "log"]},
    "threecopies.texts": {
        "run_text": ["run"], "book_text": ["book"], "read_run": ["text"], "read_book": ["text"],
    },
}
CLASSES = {
    "threecopies.errors": {"NotLet": ["index"], "BadLog": ["index"], "BadBook": ["part"],
                           "TooMany": ["most"], "BadText": ["line"]},
    "threecopies.books": {"Book": ["first", "changes", "forks", "joins", "looks"],
                          "Rule": ["first", "changes", "forks", "joins", "looks"]},
    "threecopies.notebook": {"Notebook": ["book", "most"]},
}
METHODS = {
    "write": ["copy", "cell", "value"], "fork": ["copy"], "meet": ["one", "other"],
    "join": ["one", "other"], "lose": ["copy"], "read": ["copy", "cell"], "cells": ["copy"],
    "copies": [], "stamp": ["copy"], "held": ["copy"], "gone": [], "lies": [], "back": [],
    "copy": [], "log": [],
}


class TestInterface(unittest.TestCase):
    def test_functions(self):
        for place, functions in FUNCTIONS.items():
            module = importlib.import_module(place)
            for name, arguments in functions.items():
                with self.subTest(place, name=name):
                    function = getattr(module, name)
                    self.assertTrue(inspect.isfunction(function))
                    self.assertEqual(function.__module__, place)
                    self.assertEqual(list(inspect.signature(function).parameters), arguments)

    def test_classes(self):
        for place, classes in CLASSES.items():
            module = importlib.import_module(place)
            for name, arguments in classes.items():
                with self.subTest(place, name=name):
                    kind = getattr(module, name)
                    self.assertTrue(inspect.isclass(kind))
                    self.assertEqual(kind.__module__, place)
                    self.assertEqual(list(inspect.signature(kind).parameters), arguments)
                    self.assertIn("__init__", vars(kind))

    def test_methods_of_a_notebook(self):
        own = vars(importlib.import_module("threecopies.notebook").Notebook)
        for name, arguments in METHODS.items():
            with self.subTest(name):
                self.assertTrue(inspect.isfunction(own[name]))
                self.assertEqual(list(inspect.signature(own[name]).parameters),
                                 ["self", *arguments])

    def test_book_compares_by_its_own_method(self):
        self.assertIn("__eq__", vars(importlib.import_module("threecopies.books").Book))

    def test_attributes_are_set_on_each_object(self):
        for book in (random_book(0, 3), random_book(0, 3, with_looks=False), tree_rule()):
            self.assertEqual(set(vars(book)), {"first", "changes", "forks", "joins", "looks"})


if __name__ == "__main__":
    unittest.main()
