"""Tests of [16]: texts of runs and of books, written and read back."""

import random
import re
import unittest

from tests.cases import NO_LOOK, ONE, PAIR
from tests.reference import WORLDS, all_deeds, odd_things, odd_tuples, random_book, random_run
from threecopies.books import Book
from threecopies.errors import BadText, NoRun
from threecopies.makers import nine_book, sixteen_book, twelve_book, two_book
from threecopies.runs import is_run
from threecopies.texts import book_text, read_book, read_run, run_text

RUN = (("fork", 0), ("change", 1), ("fork", 1), ("join", 0, 2), ("lose", 10), ("join", 123456789, 0))
RUN_TEXT = "fork 0\nchange 1\nfork 1\njoin 0 2\nlose 10\njoin 123456789 0"
PAIR_LINES = ["stamps 2 first 0", "change 0 1", "change 1 1", "fork 0 0 0", "fork 1 0 0",
              "join 0 0 0", "join 1 0 0", "look 0 s e", "look 1 n a"]
MIXED = Book(1, (2, 0, 1), ((0, 1), (2, 0), (1, 2)), ((0, 1, 2), (2, 1, 0), (1, 1, 2)),
             (("same", "elder", "newer"), ("newer", "same", "apart"), ("elder", "apart", "same")))
MIXED_TEXT = """stamps 3 first 1
change 0 2
change 1 0
change 2 1
fork 0 0 1
fork 1 2 0
fork 2 1 2
join 0 0 1 2
join 1 2 1 0
join 2 1 1 2
look 0 s e n
look 1 n s a
look 2 e a s"""


def big_book(many, looks=True):
    row = tuple(range(many))
    return Book(many - 1, row[::-1], tuple((stamp, many - 1) for stamp in row), (row,) * many,
                (("apart",) * many,) * many if looks else None)


def wrong_line(text):
    """The first wrong line of the text of a book, by patterns, or None."""
    lines = text.split("\n")
    number = "(?:0|[1-9][0-9]{0,8})"
    head = re.fullmatch(f"stamps ({number}) first ({number})", lines[0])
    if head is None or not 1 <= int(head[1]) <= 400 or int(head[2]) >= int(head[1]):
        return 1
    many = int(head[1])
    one = "(?:" + "|".join(str(stamp) for stamp in range(many)) + ")"
    due = [f"{word} {stamp}" + f" {one}" * length
           for word, length in (("change", 1), ("fork", 2), ("join", many)) for stamp in range(many)]
    if len(lines) > 1 + len(due):
        due += [f"look {stamp}" + " [snea]" * many for stamp in range(many)]
    for at, pattern in enumerate(due, 1):
        if at == len(lines) or re.fullmatch(pattern, lines[at]) is None:
            return at + 1
    return None if len(lines) == 1 + len(due) else len(due) + 2


class TextCase(unittest.TestCase):
    def check_bad(self, read, text, line):
        with self.assertRaises(BadText) as caught:
            read(text)
        self.assertEqual(caught.exception.line, line)
        self.assertNotIsInstance(caught.exception.line, bool)


class TestRuns(TextCase):
    def test_by_hand(self):
        self.assertEqual(run_text(RUN), RUN_TEXT)
        self.assertEqual(read_run(RUN_TEXT), RUN)
        self.assertEqual(run_text((("lose", 7),)), "lose 7")
        self.assertEqual(read_run("lose 7"), (("lose", 7),))

    def test_the_empty_text(self):
        self.assertEqual(run_text(()), "")
        self.assertEqual(read_run(""), ())

    def test_there_and_back(self):
        for seed, world in enumerate(WORLDS):
            run = random_run(seed, world, 25)
            found = read_run(run_text(run))
            self.assertEqual(found, run)
            self.assertTrue(is_run(found))
        every = tuple(all_deeds(12))
        self.assertEqual(read_run(run_text(every)), every)
        self.assertEqual(run_text(every).split("\n"),
                         [" ".join(map(str, deed)) for deed in every])

    def test_runs_that_no_world_lets(self):
        for run in ((("lose", 0),), (("join", 5, 4), ("fork", 9)), (("change", 999999999),)):
            self.assertEqual(read_run(run_text(run)), run)

    def test_many_deeds(self):
        run = (("join", 10, 11), ("fork", 0)) * 20000
        self.assertEqual(read_run(run_text(run)), run)

    def test_numbers_of_more_figures_are_written_and_not_read(self):
        self.assertEqual(read_run("fork 999999999"), (("fork", 999999999),))
        for number in (10 ** 9, 10 ** 999):
            text = run_text((("fork", 0), ("fork", number)))
            self.assertEqual(text, f"fork 0\nfork {number}")
            self.check_bad(read_run, text, 2)
            self.check_bad(read_run, f"join 0 {number}", 1)
            self.check_bad(read_run, f"join {number} 0", 1)

    def test_no_run(self):
        for thing in [list(RUN), (("join", 1, 1),), (("fork", -1),), (("fork", True),), RUN_TEXT,
                      (("write", 0, "a", 1),), *odd_things(), *odd_tuples()]:
            self.assertRaises(NoRun, run_text, thing)

    def test_no_string(self):
        for read in (read_run, read_book):
            for thing in [thing for thing in odd_things() if not isinstance(thing, str)]:
                self.check_bad(read, thing, 0)
            for thing in [RUN, [RUN_TEXT], (RUN_TEXT,), *odd_tuples()]:
                self.check_bad(read, thing, 0)

    def test_lines_that_are_no_deeds(self):
        wrong = ["", " ", "fork", "fork ", "fork  0", " fork 0", "fork 0 ", "fork 0 0", "fork\t0",
                 "Fork 0", "forks 0", "fork 00", "fork 01", "fork 0123", "fork +1", "fork -0",
                 "fork -1", "fork 1.0", "fork 1_0", "fork 0x1", "fork a", "fork 1e3", "fork \"0\"",
                 "fork 1000000000", "fork 0000000001", "join 0", "join 0 0", "join 7 7", "join 0  1",
                 "join 0 1 2", "join 0,1", "join 0 01", "join", "lose", "lose 0 1", "change",
                 "change 0 1", "0", "0 fork", "0 1", "write 0", "stamps 1 first 0", "fork 0\t",
                 "meet 0 1", "('fork', 0)", "~", "fork 0;", "fork ~"]
        for line in wrong:
            with self.subTest(line):
                if line:
                    self.check_bad(read_run, line, 1)
                self.check_bad(read_run, "\n".join([line, "fork 0"]), 1)
                self.check_bad(read_run, "\n".join(["fork 0", line]), 2)
                self.check_bad(read_run, "\n".join(["join 0 1", "lose 3", line, "fork 0", line]), 3)

    def test_line_feeds_too_many(self):
        self.check_bad(read_run, "\n", 1)
        self.check_bad(read_run, RUN_TEXT + "\n", 7)
        self.check_bad(read_run, "\n" + RUN_TEXT, 1)
        self.check_bad(read_run, RUN_TEXT.replace("\n", "\n\n"), 2)

    def test_one_sign_otherwise(self):
        rng = random.Random(1)
        signs = "0123456789 \n\tabcdefghijklmnopqrstuvwxyzAJF+-.~_"
        for _ in range(4000):
            at = rng.randrange(len(RUN_TEXT))
            sign = rng.choice(signs)
            text = rng.choice([RUN_TEXT[:at] + sign + RUN_TEXT[at + 1:],
                               RUN_TEXT[:at] + sign + RUN_TEXT[at:],
                               RUN_TEXT[:at] + RUN_TEXT[at + 1:]])
            wrong = [number for number, line in enumerate(text.split("\n"), 1)
                     if not self.is_line(line)]
            if wrong:
                self.check_bad(read_run, text, wrong[0])
            else:
                self.assertEqual(run_text(read_run(text)), text)

    def is_line(self, line):
        for word, many in (("change", 1), ("fork", 1), ("join", 2), ("lose", 1)):
            numbers = line.removeprefix(word + " ").split(" ")
            if line.startswith(word + " ") and len(numbers) == many:
                return (all(number.isdigit() and str(int(number)) == number and len(number) < 10
                            for number in numbers) and len(set(numbers)) == many)
        return False


class TestBooks(TextCase):
    def test_by_hand(self):
        self.assertEqual(book_text(PAIR), "\n".join(PAIR_LINES))
        self.assertEqual(book_text(NO_LOOK), "\n".join(PAIR_LINES[:7]))
        self.assertEqual(book_text(MIXED), MIXED_TEXT)
        self.assertEqual(book_text(ONE), "stamps 1 first 0\nchange 0 0\nfork 0 0 0\njoin 0 0\nlook 0 s")
        self.assertEqual(read_book("\n".join(PAIR_LINES)), PAIR)
        self.assertEqual(read_book("\n".join(PAIR_LINES[:7])), NO_LOOK)
        self.assertEqual(read_book(MIXED_TEXT), MIXED)
        self.assertIsNone(read_book("\n".join(PAIR_LINES[:7])).looks)

    def test_there_and_back(self):
        books = [two_book(), nine_book(), twelve_book(), sixteen_book(), ONE, NO_LOOK, MIXED]
        books += [random_book(many, many, looks) for many in (1, 2, 3, 11, 101)
                  for looks in (True, False)]
        for book in books:
            found = read_book(book_text(book))
            self.assertIsInstance(found, Book)
            self.assertEqual(found, book)

    def test_the_number_of_lines(self):
        for many in (1, 2, 9, 10):
            self.assertEqual(len(book_text(big_book(many)).split("\n")), 1 + 4 * many)
            self.assertEqual(len(book_text(big_book(many, False)).split("\n")), 1 + 3 * many)

    def test_stamps_up_to_400(self):
        for looks in (True, False):
            book = big_book(400, looks)
            self.assertEqual(read_book(book_text(book)), book)
        lines = book_text(big_book(400)).split("\n")
        self.check_bad(read_book, "\n".join(["stamps 401 first 0"] + lines[1:]), 1)
        self.check_bad(read_book, "\n".join(["stamps 399 first 0"] + lines[1:]), 401 - 399)
        self.check_bad(read_book, "\n".join(lines[:-1]), 1601)
        self.check_bad(read_book, "\n".join(lines + [lines[-1]]), 1602)

    def test_the_first_line(self):
        rest = PAIR_LINES[1:]
        for line in ["", " ", "stamps 0 first 0", "stamps 401 first 0", "stamps 2 first 2",
                     "stamps 2 first 3", "stamps 2 first -1", "stamps 02 first 0",
                     "stamps 2 first 00", "stamps 2 first 01", "stamps 2", "stamps 2 first",
                     "stamps 2 first 0 ", " stamps 2 first 0", "stamps  2 first 0",
                     "stamps 2  first 0", "stamps 2 first  0", "stamps 2 first 0 0",
                     "Stamps 2 first 0", "stamp 2 first 0", "stamps 2 First 0", "stamps two first 0",
                     "stamps 2 first zero", "stamps +2 first 0", "stamps 2 last 0", "first 0 stamps 2",
                     "stamps 1000000000 first 0", "stamps 2 first 1000000000",
                     "stamps 2\tfirst 0", "stamps 2 first 0\t", "stamps 2_0 first 0", "change 0 1",
                     "stamps " + "9" * 1000 + " first 0", "stamps 2 first " + "0" * 1000]:
            with self.subTest(line):
                self.check_bad(read_book, line, 1)
                self.check_bad(read_book, "\n".join([line, *rest]), 1)
        self.check_bad(read_book, "\n", 1)

    def test_the_first_stamp(self):
        for first in (0, 1):
            text = "\n".join([f"stamps 2 first {first}", *PAIR_LINES[1:]])
            self.assertEqual(read_book(text).first, first)

    def test_lines_too_few(self):
        for lines in (PAIR_LINES, MIXED_TEXT.split("\n")):
            many = (len(lines) - 1) // 4
            for left in range(1, len(lines)):
                text = "\n".join(lines[:left])
                if left == 1 + 3 * many:
                    self.assertIsNone(read_book(text).looks)
                else:
                    self.check_bad(read_book, text, left + 1)
                if left + 1 < len(lines):
                    self.check_bad(read_book, text + "\n", left + 1)

    def test_lines_too_many(self):
        text = "\n".join(PAIR_LINES)
        for more in ("\n", "\nlook 2 s s", "\nlook 1 n a", "\n\n", "\nfork 0 0 0\nx"):
            self.check_bad(read_book, text + more, 10)
        text = "\n".join(PAIR_LINES[:7])
        for more in ("\n", "\nlook 1 n a", "\njoin 1 0 0", "\n\n", "\nx"):
            self.check_bad(read_book, text + more, 8)

    def test_a_line_left_out_or_told_twice_or_put_elsewhere(self):
        lines = MIXED_TEXT.split("\n")
        for at in range(1, 13):
            self.check_bad(read_book, "\n".join(lines[:at] + lines[at + 1:]), at + 1)
            self.check_bad(read_book, "\n".join(lines[:at] + [lines[at]] + lines[at:]), at + 2)
            for other in range(at + 1, 13):
                swapped = list(lines)
                swapped[at], swapped[other] = lines[other], lines[at]
                self.check_bad(read_book, "\n".join(swapped), at + 1)

    def test_each_line_otherwise(self):
        spoilt = {"change": ["change 0", "change 0 2", "change 0 -1", "change 0 01", "change 0 1 ",
                             "change  0 1", "change 0 1 1", "change 00 1", "changes 0 1", "change 0 s",
                             "Change 0 1", "change 0 10", "change 0 \t1", "fork 0 1", ""],
                  "fork": ["fork 0 0", "fork 0 0 2", "fork 0 2 0", "fork 0 0 0 0", "fork 0 0  0",
                           "fork 0 0 00", "fork 0 0 +0", "fork 0 00 0", "join 0 0 0", ""],
                  "join": ["join 0 0", "join 0 0 2", "join 0 2 0", "join 0 0 0 0", "join 0 0 0 ",
                           "join 0 0 a", "join 0 a 0", "look 0 s s", "fork 0 0 0", ""],
                  "look": ["look 0 s", "look 0 s s s", "look 0 ss", "look 0 same elder", "look 0 S e",
                           "look 0 s E", "look 0 s x", "look 0 x s", "look 0 0 0", "look 0 s e ",
                           "look 0  s e", "look 0 s", "join 0 0 0", "look 0 s,e", ""]}
        for word, wrong in spoilt.items():
            for stamp in (0, 1):
                at = next(at for at, line in enumerate(PAIR_LINES)
                          if line.startswith(f"{word} {stamp}"))
                for line in wrong + [PAIR_LINES[at].replace(f"{word} {stamp}", f"{word} {other}")
                                     for other in (1 - stamp, 2, -1, f"0{stamp}", "a")]:
                    line = line.replace(f"{word} 0", f"{word} {stamp}") if line in wrong else line
                    with self.subTest(line, at=at):
                        lines = PAIR_LINES[:at] + [line] + PAIR_LINES[at + 1:]
                        self.check_bad(read_book, "\n".join(lines), at + 1)

    def test_the_first_wrong_line_is_told(self):
        lines = MIXED_TEXT.split("\n")
        for at in range(13):
            spoilt = lines[:at] + ["x"] + lines[at + 1:]
            self.check_bad(read_book, "\n".join(spoilt + ["x"]), at + 1)
            self.check_bad(read_book, "\n".join(spoilt[:-1] + ["y"]), at + 1)
            if at < 12:
                self.check_bad(read_book, "\n".join(spoilt[:-1]), at + 1)

    def test_one_sign_otherwise(self):
        rng = random.Random(2)
        seen = set()
        for _ in range(5000):
            at = rng.randrange(len(MIXED_TEXT))
            sign = rng.choice("0123 \n\tsneachgfjoinlkS9+-~")
            text = rng.choice([MIXED_TEXT[:at] + sign + MIXED_TEXT[at + 1:],
                               MIXED_TEXT[:at] + sign + MIXED_TEXT[at:],
                               MIXED_TEXT[:at] + MIXED_TEXT[at + 1:]])
            wrong = wrong_line(text)
            seen.add(wrong)
            if wrong is None:
                self.assertEqual(book_text(read_book(text)), text)
            else:
                self.check_bad(read_book, text, wrong)
        self.assertLessEqual({None, *range(1, 14)}, seen)

    def test_other_texts(self):
        for text in odd_things():
            if isinstance(text, str):
                self.check_bad(read_book, text, 1)
                if text:
                    self.check_bad(read_run, text, 1)
        self.check_bad(read_book, RUN_TEXT, 1)
        self.check_bad(read_run, MIXED_TEXT, 1)


if __name__ == "__main__":
    unittest.main()
