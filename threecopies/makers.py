"""Books whose look is the truth: for two copies, for three, and for any number off one trunk."""

from threecopies.books import Book, Rule
from threecopies.checks import MOST_COPIES, check_number

# By whether the first copy knows what the second does not, and the other way about.
NEWS = (("same", "elder"), ("newer", "apart"))
LEVELS = 3


def two_book():
    # Stamp 1: the copy was changed since the fork that made it.
    return Book(0, (1, 1), ((0, 0), (0, 0)), ((0, 0), (0, 0)), NEWS)


# In the books for three copies a stamp stands for (level, older, own, born).
#
# While three copies live, two of them are halves of one fork, a level above the third. A copy
# that comes of both levels stands on the upper one, as the half that is left does; one that
# comes of both halves stands on the lower one, as the third copy does. So two copies that are
# left stand on the same level, and three levels, counted round, tell which of two is the upper.
#   older: as a half it knows, with the other half, what the third copy does not know.
#   own: it knows what no other copy on its level knows.
#   born: how many copies lived when its level was found.


def part_changed(part):
    level, older, _, born = part
    return level, older, 1, born


def part_forked(part):
    level, _, own, born = part
    if born == 1:
        return 0, 0, 0, 2
    return (level + 1) % LEVELS, own, 0, 3


def part_joined(one, other):
    level, older, own, born = one
    if level != other[0]:
        upper = level if is_above(one, other) else other[0]
        return upper, 0, max(own, other[2]), 2
    # With a copy that was born of a join, or as one of two, there is no third one.
    if born != 3 or other[3] != 3:
        return 0, 0, 0, 1
    return (level - 1) % LEVELS, 0, max(older, own, other[1], other[2]), 2


def is_above(one, other):
    return (one[0] - other[0]) % LEVELS == 1


def part_news(one, other):
    """1 if a copy knows what another one does not, or 0."""
    return max(one[1], one[2]) if is_above(one, other) else one[2]


def nine_kept(part):
    level, older, own, _ = part
    return level, max(older, own), own, 3


def twelve_kept(part):
    level, older, own, _ = part
    return level, older, own, 3


def sixteen_kept(part):
    level, older, own, born = part
    if born == 1:
        return 0, 0, 0, 1
    if born == 2:
        return level, own, own, 2
    return level, max(older, own), own, 3


def book_of_parts(kept):
    """A Book whose stamps stand for what is kept of the parts."""
    every = [(level, older, own, born) for level in range(LEVELS)
             for older in range(2) for own in range(2) for born in range(1, 4)]
    parts = []
    for whole in every:
        less = kept(whole)
        if less not in parts:
            parts.append(less)
    numbers = {part: number for number, part in enumerate(parts)}
    halves = [numbers[kept(part_forked(part))] for part in parts]
    return Book(numbers[kept((0, 0, 0, 1))],
                tuple([numbers[kept(part_changed(part))] for part in parts]),
                tuple([(half, half) for half in halves]),
                tuple([tuple([numbers[kept(part_joined(one, other))] for other in parts])
                       for one in parts]),
                tuple([tuple([NEWS[part_news(one, other)][part_news(other, one)]
                              for other in parts]) for one in parts]))


def nine_book():
    return book_of_parts(nine_kept)


def twelve_book():
    return book_of_parts(twelve_kept)


def sixteen_book():
    return book_of_parts(sixteen_kept)


# In a trunk rule the stamp of copy 0, the trunk, is (moved, groups): groups has a pair (label,
# many) for each state of the trunk of which unjoined branches are left, the latest one behind;
# moved is 0 if the trunk knows just what the latest of them do, else 1. The stamp of a branch is
# (changed, label). The trunk sees all forks and joins; so it knows which labels it may use again.


def is_trunk(stamp):
    return isinstance(stamp[1], tuple)


def is_later(label, other):
    """Whether a label was given behind another one; of digits 0, 1, 2, counted round."""
    for digit, than in zip(label, other):
        if digit != than:
            return (int(digit) - int(than)) % 3 == 1
    return False


def next_label(labels, digits):
    """A label of so many digits that is later than all labels, at most as many as digits.

    Below each digit is room for as many labels as there are digits behind it; once it is full
    with the latest ones, the next digit is begun, and what was below it is gone by then.
    """
    if not labels:
        return "0" * digits
    latest = labels[-1]
    for at in range(digits):
        beside = [label for label in labels if label[:at + 1] == latest[:at + 1]]
        room = digits - at - 1
        if len(beside) > room:
            return latest[:at] + str((int(latest[at]) + 1) % 3) + "0" * room
    return latest


def trunk_change(stamp):
    return 1, stamp[1]


def trunk_fork(stamp, most):
    if not is_trunk(stamp):
        return stamp, stamp
    moved, groups = stamp
    if sum([many for _, many in groups]) >= most - 1:
        # More branches than the world lets: told wrong, and yet no end of stamps.
        return stamp, (0, "0" * (most - 2))
    if moved:
        label = next_label([label for label, _ in groups], most - 2)
        return (0, groups + ((label, 1),)), (0, label)
    label, many = groups[-1]
    return (0, groups[:-1] + ((label, many + 1),)), (0, label)


def trunk_join(stamp, branch):
    if not is_trunk(stamp):
        return stamp
    moved, groups = stamp
    changed, gone = branch
    left = [(label, many - 1 if label == gone else many) for label, many in groups]
    kept = tuple([group for group in left if group[1] > 0])
    if moved or changed or kept == () or kept[-1][0] != groups[-1][0]:
        return 1, kept
    return 0, kept


def trunk_news(one, other):
    """1 if a copy knows what another one does not, or 0."""
    if one[0] == 1:
        return 1
    if is_trunk(other):
        return 0
    latest = one[1][-1][0] if is_trunk(one) else one[1]
    return 1 if is_later(latest, other[1]) else 0


def trunk_look(one, other):
    return NEWS[trunk_news(one, other)][trunk_news(other, one)]


def trunk_rule(most):
    check_number(most, MOST_COPIES)
    return Rule((1, ()), trunk_change, lambda stamp: trunk_fork(stamp, most), trunk_join, trunk_look)
