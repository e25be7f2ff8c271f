"""Tests of [5]: the errors."""

import unittest

from threecopies import errors

PLAIN = ("NoRun", "NoWorld", "NoCopy", "NoCopies", "NoOrder", "NoLook", "NoQuestion", "NoNumber",
         "NoStamp", "NoStamps", "NoCell", "NoValue", "Full", "LastCopy", "NothingDone")
FIELDS = {"NotLet": "index", "BadLog": "index", "BadBook": "part", "TooMany": "most",
          "BadText": "line"}


def made(name):
    kind = getattr(errors, name)
    return kind(3) if name in FIELDS else kind()


class TestErrors(unittest.TestCase):
    def test_the_base(self):
        self.assertEqual(errors.CopyError.__bases__, (ValueError,))
        self.assertEqual(errors.CopyError.__name__, "CopyError")
        self.assertIsInstance(errors.CopyError(), ValueError)

    def test_each_is_a_direct_subclass(self):
        for name in [*PLAIN, *FIELDS]:
            with self.subTest(name):
                kind = getattr(errors, name)
                self.assertEqual(kind.__name__, name)
                self.assertEqual(kind.__module__, "threecopies.errors")
                self.assertEqual(kind.__bases__, (errors.CopyError,))

    def test_there_are_no_others(self):
        found = {name for name, thing in vars(errors).items() if isinstance(thing, type)}
        self.assertEqual(found, {"CopyError", *PLAIN, *FIELDS})

    def test_each_is_caught_by_its_name_and_as_its_bases(self):
        for name in [*PLAIN, *FIELDS]:
            for base in (getattr(errors, name), errors.CopyError, ValueError):
                with self.subTest(name, base=base):
                    with self.assertRaises(base) as caught:
                        raise made(name)
                    self.assertEqual(caught.exception.__class__.__name__, name)

    def test_none_is_caught_as_another(self):
        for name in [*PLAIN, *FIELDS]:
            for other in [*PLAIN, *FIELDS]:
                if other != name:
                    self.assertNotIsInstance(made(name), getattr(errors, other))

    def test_a_field_keeps_whatever_it_is_given(self):
        things = [0, 3, -1, 10 ** 999, True, None, "changes", "", [1, [2]], (), {"a": []},
                  errors.NoRun()]
        for name, field in FIELDS.items():
            for thing in things:
                with self.subTest(name):
                    error = getattr(errors, name)(thing)
                    self.assertIs(getattr(error, field), thing)

    def test_a_field_follows_the_list_that_it_was_given(self):
        rows = [1]
        error = errors.NotLet(rows)
        rows.append(2)
        self.assertEqual(error.index, [1, 2])

    def test_a_field_is_the_only_argument(self):
        for name in FIELDS:
            with self.subTest(name):
                self.assertRaises(TypeError, getattr(errors, name))
                self.assertRaises(TypeError, getattr(errors, name), 1, 2)

    def test_messages_can_be_had(self):
        for name in [*PLAIN, *FIELDS]:
            self.assertIsInstance(str(made(name)), str)


if __name__ == "__main__":
    unittest.main()
