"""Whether books answer questions: twins, lies, and all standings of the runs of a world."""

from threecopies.books import MOST_STAMPS, Book, are_stamps, borne, check_look, look_at
from threecopies.checks import WORDS, check_question, check_world, is_between, is_integer, is_tuple_of
from threecopies.errors import TooMany
from threecopies.plain import Plains, swapped
from threecopies.runs import compared, is_run, lots_of, walked
from threecopies.search import Ledger, row_spots, run_of, standing_spots
from threecopies.steps import first_mark, moves, standing_behind, word_between


def places_of(many):
    return [(one, other) for one in range(many) for other in range(many) if one != other]


def met_words(ledger, rows):
    """What the look says of each two stamps that two living copies bear somewhere."""
    words = {}
    for stamps, _ in rows:
        for one, other in places_of(len(stamps)):
            pair = (stamps[one], stamps[other])
            if pair not in words:
                words[pair] = ledger.said(stamps[one], stamps[other])
    return words


def news_of(rows):
    """The stamps of all rows by their old numbers, numbered anew as they come."""
    news = {}
    for stamps, _ in rows:
        for stamp in stamps:
            if stamp not in news:
                news[stamp] = len(news)
    return news


def taken_down(book, world):
    check_world(world)
    ledger = Ledger(book)
    rows = [spot.state for spot in row_spots(ledger, world)]
    news = news_of(rows)
    if len(news) > MOST_STAMPS:
        raise TooMany(MOST_STAMPS)
    # What never happens in this world is not asked of the book: any stamp will do there.
    olds = list(news)
    changes = [ledger.changes.get(old, old) for old in olds]
    forks = [ledger.forks.get(old, (old, old)) for old in olds]
    joins = [[ledger.joins.get((one, other), one) for other in olds] for one in olds]
    looks = None
    if book.looks is not None:
        words = met_words(ledger, rows)
        looks = tuple([tuple([words.get((one, other), "same") for other in olds])
                       for one in olds])
    return Book(news[ledger.first], tuple([news[old] for old in changes]),
                tuple([(news[one], news[other]) for one, other in forks]),
                tuple([tuple([news[old] for old in row]) for row in joins]), looks)


def sights_at(spot, question):
    """The sights at a spot: the stamps, the answer, and the copies' places."""
    stamps, lots, _ = spot.state
    many = len(stamps)
    if question[0] == "alone":
        return [((stamps[at],), many == 1, (at,)) for at in range(many)]
    if question[0] == "look":
        return [((stamps[one], stamps[other]),
                 question[1 + WORDS.index(word_between(lots, one, other))], (one, other))
                for one, other in places_of(many)]
    places = list(range(many))
    sights = [(stamps, lots, tuple(places))]
    # Copies with like stamps may stand in any order; if no two of them taking each other's
    # places changes the lots, no other order does.
    for one, other in places_of(many):
        if one < other and stamps[one] == stamps[other]:
            order = list(places)
            order[one] = other
            order[other] = one
            sights.append((stamps, swapped(lots, one, other), tuple(order)))
    return sights


def sight(spot, places):
    return run_of(spot), tuple([spot.row[at] for at in places])


def twin(book, world, question):
    check_world(world)
    check_question(question)
    seen = {}
    for spot in standing_spots(Ledger(book), world):
        for stamps, answer, places in sights_at(spot, question):
            if stamps not in seen:
                seen[stamps] = (answer, spot, places)
            first, other, others = seen[stamps]
            if first != answer:
                return sight(other, others), sight(spot, places)
    return None


def serves(book, world, question):
    return twin(book, world, question) is None


def lie(book, world):
    check_world(world)
    check_look(book)
    ledger = Ledger(book)
    for spot in standing_spots(ledger, world):
        stamps, lots, _ = spot.state
        for one, other in places_of(len(stamps)):
            if ledger.said(stamps[one], stamps[other]) != word_between(lots, one, other):
                return sight(spot, (one, other))
    return None


def herd_seen(world, thing, question):
    """The herd of a sight for a question, or None for what is no such sight."""
    if not is_tuple_of(thing, 2) or not is_run(thing[0]) or not isinstance(thing[1], tuple):
        return None
    run, copies = thing
    herd, index = walked(run, world)
    if index is not None:
        return None
    if not all([is_integer(copy) and copy in herd.knows for copy in copies]):
        return None
    many = {"look": 2, "alone": 1, "lots": len(herd.knows)}
    if len(copies) != many[question[0]] or len(set(copies)) != len(copies):
        return None
    return herd


def answer_to(question, herd, copies):
    knows = [herd.knows[copy] for copy in copies]
    if question[0] == "alone":
        return len(herd.knows) == 1
    if question[0] == "lots":
        return lots_of(knows)
    return question[1 + WORDS.index(compared(knows[0], knows[1]))]


def stamps_seen(book, thing):
    run, copies = thing
    stamps = borne(book, run)
    return tuple([stamps[copy] for copy in copies])


def is_twin(book, world, question, thing):
    check_world(world)
    check_question(question)
    if not is_tuple_of(thing, 2):
        return False
    one, other = thing
    one_herd = herd_seen(world, one, question)
    other_herd = herd_seen(world, other, question)
    if one_herd is None or other_herd is None:
        return False
    if answer_to(question, one_herd, one[1]) == answer_to(question, other_herd, other[1]):
        return False
    return stamps_seen(book, one) == stamps_seen(book, other)


def is_lie(book, world, thing):
    check_world(world)
    check_look(book)
    # Which numbers a look gives for the four truths does not matter for what a sight of it is.
    herd = herd_seen(world, thing, ("look", 0, 1, 2, 3))
    if herd is None:
        return False
    one, other = thing[1]
    stamps = stamps_seen(book, thing)
    return look_at(book, stamps[0], stamps[1]) != compared(herd.knows[one], herd.knows[other])


def standings(book, world):
    check_world(world)
    return sorted([spot.state for spot in standing_spots(Ledger(book), world)])


def is_ascending(row):
    return all([row[at] < row[at + 1] for at in range(len(row) - 1)])


def is_lot(thing, many):
    return (isinstance(thing, tuple) and 0 < len(thing) < many
            and all([is_between(place, 0, many - 1) for place in thing]) and is_ascending(thing))


def is_standing(book, world, thing):
    """Whether a thing has the form of a standing, plain or not, be there a run for it or not."""
    if not is_tuple_of(thing, 3):
        return False
    stamps, lots, mark = thing
    most, kind, losses = world
    if not isinstance(stamps, tuple) or not 1 <= len(stamps) <= most:
        return False
    many = len(stamps)
    if not are_stamps(stamps, many, len(book.changes)) or not isinstance(lots, tuple):
        return False
    if not all([is_lot(lot, many) for lot in lots]) or not is_ascending(lots):
        return False
    least = -1 if kind == "free" or losses else 0
    return is_between(mark, least, -1 if kind == "free" else many - 1)


def is_closed(book, world, thing):
    check_world(world)
    if not isinstance(thing, list) or not all([is_standing(book, world, one) for one in thing]):
        return False
    if not is_ascending(thing):
        return False
    plains = Plains()
    listed = {standing: True for standing in thing}
    if ((book.first,), (), first_mark(world)) not in listed:
        return False
    ledger = Ledger(book)
    for standing in thing:
        if plains.plain(standing) != standing:
            return False
        for deed in moves(len(standing[0]), standing[2], world):
            if plains.plain(standing_behind(ledger, standing, deed)) not in listed:
                return False
    return True
