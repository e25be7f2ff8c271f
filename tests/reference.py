"""A slow, plain model of the document's [6] to [8], written apart from the package.

What a copy knows is a frozenset of indexes here, and the stamp of a copy is the tree of
all that became of it. The module also makes runs, books and things of all sorts.
"""

import itertools
import random

from threecopies.books import Book, Rule
from threecopies.errors import NoRun, NotLet
from threecopies.notebook import Notebook

KINDS = ("free", "pen", "trunk")
WORDS = ("same", "newer", "elder", "apart")
WORLDS = [(most, kind, losses)
          for most in range(1, 8) for kind in KINDS for losses in (False, True)]
FREE = (7, "free", True)


class Model:
    def __init__(self):
        self.known = {0: frozenset()}
        self.tree = {0: "o"}
        self.forks = 0
        self.pen = 0

    def reason(self, deed, world):
        """Why a deed can't be done, or may not be in the world, or None."""
        most, kind, losses = world
        if any(copy not in self.known for copy in deed[1:]):
            return "not living"
        if deed[0] == "change" and kind == "pen" and self.pen != deed[1]:
            return "no pen"
        if deed[0] == "fork" and len(self.known) == most:
            return "too many"
        if deed[0] in ("fork", "join") and kind == "trunk" and deed[1] != 0:
            return "not the trunk"
        if deed[0] == "lose" and len(self.known) == 1:
            return "last copy"
        if deed[0] == "lose" and not losses:
            return "no losses"
        return None

    def do(self, deed, index):
        copy = deed[1]
        if deed[0] == "change":
            self.known[copy] = self.known[copy] | {index}
            self.tree[copy] = ("change", self.tree[copy])
        if deed[0] == "fork":
            self.forks += 1
            self.known[self.forks] = self.known[copy]
            stem = self.tree[copy]
            self.tree[copy] = ("fork 0", stem)
            self.tree[self.forks] = ("fork 1", stem)
        if deed[0] == "join":
            self.known[copy] = self.known[copy] | self.known.pop(deed[2])
            self.tree[copy] = ("join", self.tree[copy], self.tree.pop(deed[2]))
            if self.pen == deed[2]:
                self.pen = copy
        if deed[0] == "lose":
            del self.known[copy]
            del self.tree[copy]
            if self.pen == copy:
                self.pen = None

    def truth(self, one, other):
        one, other = self.known[one], self.known[other]
        if one == other:
            return "same"
        if one > other:
            return "newer"
        if one < other:
            return "elder"
        return "apart"

    def lots(self, copies):
        found = set()
        for deed in frozenset().union(*self.known.values()):
            lot = tuple(at for at, copy in enumerate(copies) if deed in self.known[copy])
            if len(lot) < len(copies):
                found.add(lot)
        return tuple(sorted(found))


def modelled(run, world):
    """The model behind the deeds that can be done, and the fault or None."""
    model = Model()
    for index, deed in enumerate(run):
        if model.reason(deed, world) is not None:
            return model, index
        model.do(deed, index)
    return model, None


def all_deeds(copies):
    """All deeds of copies below a number."""
    deeds = [(word, copy) for word in ("change", "fork", "lose") for copy in range(copies)]
    return deeds + [("join", one, other) for one, other in itertools.permutations(range(copies), 2)]


def random_run(seed, world, length):
    """A run of this world, the same for the same seed; shorter if nothing can be done."""
    rng = random.Random(seed)
    model = Model()
    run = []
    for index in range(length):
        copies = sorted(model.known)
        deeds = [(word, copy) for word in ("change", "fork", "lose") for copy in copies]
        # Joins are many among many copies; one of them is enough to choose from.
        if len(copies) > 1:
            deeds += [("join",) + tuple(rng.sample(copies, 2)) for _ in range(2)]
        deeds += [("fork", copy) for copy in copies]
        deeds = [deed for deed in deeds if model.reason(deed, world) is None]
        if not deeds:
            break
        deed = rng.choice(deeds)
        model.do(deed, index)
        run.append(deed)
    return tuple(run)


def random_book(seed, many, with_looks=True):
    rng = random.Random(seed)

    def row(length):
        return tuple(rng.randrange(many) for _ in range(length))

    looks = tuple(tuple(rng.choice(WORDS) for _ in range(many)) for _ in range(many))
    return Book(rng.randrange(many), row(many), tuple(row(2) for _ in range(many)),
                tuple(row(many) for _ in range(many)), looks if with_looks else None)


def tree_rule(looks=None):
    """A Rule whose stamps are the trees of the model."""
    return Rule("o", lambda stamp: ("change", stamp),
                lambda stamp: (("fork 0", stamp), ("fork 1", stamp)),
                lambda one, other: ("join", one, other), looks)


def by_book(book, tree):
    """The stamp of a Book that stands for a tree."""
    if tree == "o":
        return book.first
    parts = [by_book(book, part) for part in tree[1:]]
    if tree[0] == "change":
        return book.changes[parts[0]]
    if tree[0] == "join":
        return book.joins[parts[0]][parts[1]]
    return book.forks[parts[0]][int(tree[0][-1])]


def nested(shell, depth=30):
    """A thing that is nested so deep."""
    thing = 0
    for _ in range(depth):
        if shell is dict:
            thing = {"a": thing}
        else:
            thing = shell([thing])
    return thing


def odd_things():
    """Things of all sorts that [4] lists, none of which is a run, a world, a tuple or a book."""
    flags = (False, True, None)
    numbers = (-1, 8, 401, 10 ** 999, -10 ** 999)
    texts = ("", "0", "free", "change", "a b~\n\t", "z" * 5000)
    lists = ([], [0], [0, 1], [("change", 0)], [3, "free", False], ["fork", 0])
    dicts = ({}, {0: 0}, {0: ("change", 0)}, {"a": [{}]}, {(1, "b"): None})
    deep = (nested(list), nested(dict))
    own = (random_book(0, 2), tree_rule(), NoRun(), NotLet(3), Notebook(random_book(0, 2), 3))
    return [*flags, *numbers, *texts, *lists, *dicts, *deep, *own]


def odd_tuples():
    """Tuples that are no run, no world, and no tuple of copies or stamps."""
    inside = [thing for thing in odd_things() if not (isinstance(thing, int) and thing == 0)]
    tuples = [(thing,) for thing in inside] + [(thing, 0) for thing in inside]
    return tuples + [nested(tuple), (nested(tuple), nested(list)), tuple(range(1000, 3000)),
                     (0,) * 50000]


def worn(book, run):
    """The stamps of the living copies behind a run that can be done."""
    if isinstance(book, Book):
        change, fork = book.changes.__getitem__, book.forks.__getitem__

        def join(one, other):
            return book.joins[one][other]
    else:
        change, fork, join = book.changes, book.forks, book.joins
    bears = [book.first]
    for deed in run:
        copy = deed[1]
        if deed[0] == "change":
            bears[copy] = change(bears[copy])
        elif deed[0] == "fork":
            bears[copy], second = fork(bears[copy])
            bears.append(second)
        elif deed[0] == "join":
            bears[copy] = join(bears[copy], bears[deed[2]])
            bears[deed[2]] = None
        else:
            bears[copy] = None
    return {copy: stamp for copy, stamp in enumerate(bears) if stamp is not None}


def look_of(book, one, other):
    return book.looks[one][other] if isinstance(book, Book) else book.looks(one, other)


def marked(model, kind):
    """The copy that has the pen or is copy 0, or None."""
    if kind == "free":
        return None
    return model.pen if kind == "pen" else 0 if 0 in model.known else None


def plain_behind(book, run, world):
    """The plain standing behind a run, by trying every order of the copies."""
    model, index = modelled(run, world)
    assert index is None
    bears = worn(book, run)
    mark = marked(model, world[1])
    found = []
    for copies in itertools.permutations(sorted(model.known)):
        at = copies.index(mark) if mark in copies else -1
        found.append((tuple(bears[copy] for copy in copies), model.lots(copies), at))
    return min(found)


def next_runs(run, world):
    """All runs of one deed more."""
    model, _ = modelled(run, world)
    deeds = all_deeds(1 + max(model.known))
    return [run + (deed,) for deed in deeds if model.reason(deed, world) is None]


def runs_to_standings(book, world):
    """A run of the fewest deeds to each plain standing, the fewest ahead."""
    runs = {plain_behind(book, (), world): ()}
    waiting = [()]
    while waiting:
        later = []
        for run in waiting:
            for longer in next_runs(run, world):
                standing = plain_behind(book, longer, world)
                if standing not in runs:
                    runs[standing] = longer
                    later.append(longer)
        waiting = later
    return runs


def runs_to_rows(books, world):
    """A run of the fewest deeds to each row of the copies with their stamps, and the mark."""
    def row_of(run):
        rows = [worn(book, run) for book in books]
        mark = marked(modelled(run, world)[0], world[1])
        return tuple((tuple(repr(row[copy]) for row in rows), copy == mark)
                     for copy in sorted(rows[0]))

    found = {row_of(()): ()}
    waiting = [()]
    while waiting:
        longer = [more for run in waiting for more in next_runs(run, world)]
        waiting = []
        for run in longer:
            if found.setdefault(row_of(run), run) == run:
                waiting.append(run)
    return list(found.values())


def all_runs(world, length):
    """All runs of a world of at most so many deeds."""
    found = [()]
    ends = [()]
    for _ in range(length):
        ends = [longer for run in ends for longer in next_runs(run, world)]
        found += ends
    return found


def sights_of(run, world, question):
    """All sights for a question at a run: copies and the answer."""
    model, _ = modelled(run, world)
    copies = sorted(model.known)
    if question[0] == "alone":
        return [((copy,), len(copies) == 1) for copy in copies]
    if question[0] == "lots":
        return [(order, model.lots(order)) for order in itertools.permutations(copies)]
    return [((one, other), question[1 + WORDS.index(model.truth(one, other))])
            for one, other in itertools.permutations(copies, 2)]


def has_twin(book, world, question, runs):
    """Whether two sights at these runs, or one run, are a twin."""
    answers = {}
    for run in runs:
        bears = worn(book, run)
        for copies, answer in sights_of(run, world, question):
            seen = tuple(bears[copy] for copy in copies)
            if answers.setdefault(seen, answer) != answer:
                return True
    return False


def lying_copies(book, run, world):
    """The pairs of copies of which the look doesn't say the truth."""
    model, _ = modelled(run, world)
    bears = worn(book, run)
    return [(one, other) for one, other in itertools.permutations(sorted(model.known), 2)
            if look_of(book, bears[one], bears[other]) != model.truth(one, other)]


def least(standing):
    """The plain standing, by trying every order."""
    stamps, lots, mark = standing
    found = []
    for order in itertools.permutations(range(len(stamps))):
        place = {old: new for new, old in enumerate(order)}
        found.append((tuple(stamps[old] for old in order),
                      tuple(sorted(tuple(sorted(place[at] for at in lot)) for lot in lots)),
                      place.get(mark, -1)))
    return min(found)


def all_standings(many, copies, world):
    """All plain standings of so many stamps and so many copies, be there a run or not."""
    lots = [lot for size in range(1, copies) for lot in itertools.combinations(range(copies), size)]
    marks = [-1] if world[1] == "free" else list(range(-1 if world[2] else 0, copies))
    found = set()
    for stamps in itertools.combinations_with_replacement(range(many), copies):
        for size in range(len(lots) + 1):
            for some in itertools.combinations(sorted(lots), size):
                found.update(least((stamps, some, mark)) for mark in marks)
    return sorted(found)


def steps_of(book, standing, world):
    """All plain standings that come of a standing of a Book by one deed."""
    stamps, lots, mark = standing
    names = list(range(1, len(stamps) + 1))
    if mark >= 0:
        names[mark] = 0
    found = set()
    for deed in all_deeds(len(stamps) + 1):
        model = Model()
        model.known = {name: frozenset(lot for lot in lots if at in lot)
                       for at, name in enumerate(names)}
        model.tree = {name: stamps[at] for at, name in enumerate(names)}
        model.forks = len(stamps)
        model.pen = 0 if mark >= 0 else None
        if model.reason(deed, world) is not None:
            continue
        model.do(deed, "new")
        # What a deed makes of one stamp is what a short run makes of it.
        bears = {name: step_of(book, tree) for name, tree in model.tree.items()}
        copies = sorted(model.known)
        at = -1 if marked(model, world[1]) is None else copies.index(marked(model, world[1]))
        found.add(least((tuple(bears[name] for name in copies), model.lots(copies), at)))
    return found


def step_of(book, tree):
    """The stamp behind one deed of the model, or none."""
    if not isinstance(tree, tuple):
        return tree
    if tree[0] == "change":
        return book.changes[tree[1]]
    if tree[0] == "join":
        return book.joins[tree[1]][tree[2]]
    return book.forks[tree[1]][int(tree[0][-1])]
