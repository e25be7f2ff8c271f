"""What counts as an integer, a word, a world, a question: the checks that several files share."""

from threecopies.errors import NoNumber, NoQuestion, NoWorld

WORDS = ("same", "newer", "elder", "apart")
KINDS = ("free", "pen", "trunk")
MOST_COPIES = 7


def is_integer(thing):
    # Python takes a flag for an int; here it is none.
    return isinstance(thing, int) and not isinstance(thing, bool)


def is_between(thing, least, most):
    return is_integer(thing) and least <= thing <= most


def is_tuple_of(thing, length):
    return isinstance(thing, tuple) and len(thing) == length


def is_world(thing):
    if not is_tuple_of(thing, 3):
        return False
    most, kind, losses = thing
    return is_between(most, 1, MOST_COPIES) and kind in KINDS and isinstance(losses, bool)


def is_question(thing):
    if is_tuple_of(thing, 1):
        return thing[0] in ("alone", "lots")
    if not is_tuple_of(thing, 5) or thing[0] != "look":
        return False
    return all([is_between(answer, 0, 3) for answer in thing[1:]])


def check_world(thing):
    if not is_world(thing):
        raise NoWorld()


def check_question(thing):
    if not is_question(thing):
        raise NoQuestion()


def check_number(thing, most):
    if not is_between(thing, 1, most):
        raise NoNumber()
