"""What counts as an integer, a word, a world: the checks that several files share."""

WORDS = ("same", "newer", "elder", "apart")
KINDS = ("free", "pen", "trunk")


def is_integer(thing):
    # Python takes a flag for an int; here it is none.
    return isinstance(thing, int) and not isinstance(thing, bool)


def is_between(thing, least, most):
    return is_integer(thing) and least <= thing <= most


def is_tuple_of(thing, length):
    return isinstance(thing, tuple) and len(thing) == length


def is_world(thing):
    if not is_tuple_of(thing, 3):
        return False
    most, kind, losses = thing
    return is_between(most, 1, 7) and kind in KINDS and isinstance(losses, bool)
