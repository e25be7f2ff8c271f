"""Runs and books as texts of lines, written and read back."""

from threecopies.books import MOST_STAMPS, Book
from threecopies.checks import WORDS
from threecopies.errors import BadText, NoRun
from threecopies.runs import is_deed, is_run

DIGITS = "0123456789"
MOST_FIGURES = 9


def line_of(words):
    return " ".join([str(word) for word in words])


def run_text(run):
    if not is_run(run):
        raise NoRun()
    return "\n".join([line_of(deed) for deed in run])


def table_lines(word, rows):
    """A line for each stamp: the word, the stamp, and its row."""
    return [line_of([word, stamp, *row]) for stamp, row in enumerate(rows)]


def book_text(book):
    lines = [f"stamps {len(book.changes)} first {book.first}"]
    lines.extend(table_lines("change", [(stamp,) for stamp in book.changes]))
    lines.extend(table_lines("fork", book.forks))
    lines.extend(table_lines("join", book.joins))
    if book.looks is not None:
        lines.extend(table_lines("look", [[word[0] for word in row] for row in book.looks]))
    return "\n".join(lines)


def check_text(thing):
    if not isinstance(thing, str):
        raise BadText(0)


def number_in(word):
    """The integer that a word writes, or None."""
    if not 1 <= len(word) <= MOST_FIGURES or not all([sign in DIGITS for sign in word]):
        return None
    if word[0] == "0" and len(word) > 1:
        return None
    return int(word)


def read_run(text):
    check_text(text)
    if text == "":
        return ()
    deeds = []
    for at, line in enumerate(text.split("\n")):
        words = line.split(" ")
        copies = [number_in(word) for word in words[1:]]
        deed = (words[0], *copies)
        if not is_deed(deed):
            raise BadText(at + 1)
        deeds.append(deed)
    return tuple(deeds)


def read_head(line):
    """The number of stamps and the first one."""
    words = line.split(" ")
    if len(words) != 4 or words[0] != "stamps" or words[2] != "first":
        raise BadText(1)
    many = number_in(words[1])
    first = number_in(words[3])
    if many is None or first is None or not first < many <= MOST_STAMPS:
        raise BadText(1)
    return many, first


def read_table(lines, begin, word, length, meanings, many):
    """The rows of so many stamps, of so many words each, by what these words mean."""
    rows = []
    for stamp in range(many):
        at = begin + stamp
        words = lines[at].split(" ") if at < len(lines) else []
        if len(words) != length + 2 or words[0] != word or words[1] != str(stamp):
            raise BadText(at + 1)
        if not all([part in meanings for part in words[2:]]):
            raise BadText(at + 1)
        rows.append(tuple([meanings[part] for part in words[2:]]))
    return tuple(rows)


def read_book(text):
    check_text(text)
    lines = text.split("\n")
    many, first = read_head(lines[0])
    stamps = {str(stamp): stamp for stamp in range(many)}
    changes = read_table(lines, 1, "change", 1, stamps, many)
    forks = read_table(lines, 1 + many, "fork", 2, stamps, many)
    joins = read_table(lines, 1 + 2 * many, "join", many, stamps, many)
    looks = None
    if len(lines) > 1 + 3 * many:
        letters = {word[0]: word for word in WORDS}
        looks = read_table(lines, 1 + 3 * many, "look", many, letters, many)
    if len(lines) > 1 + 4 * many:
        raise BadText(2 + 4 * many)
    return Book(first, tuple([row[0] for row in changes]), forks, joins, looks)
