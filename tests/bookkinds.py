"""Tests, words, manners, books and worlds, written out for the tests."""

from itertools import combinations, product

TESTS = (("G1", "G2"), ("G1", "S1"), ("G1", "S2"), ("G2", "S1"), ("G2", "S2"), ("S1", "S2"))
WORDS = ("got higher", "got lower", "sent higher", "sent lower")
WORLDS = (("at once", "alike"), ("at once", "anew"), ("slow", "alike"), ("slow", "anew"))


def choices(items):
    """All ascending tuples of some of items."""
    return [chosen for many in range(len(items) + 1) for chosen in combinations(items, many)]


LOTS = choices(TESTS)
MANNERS = [(waits, notes) for waits in (False, True) for notes in choices(WORDS)]


def manners_for(many, first=0):
    """Unlike manners for many machines."""
    return tuple(MANNERS[(first + 7 * i) % len(MANNERS)] for i in range(many))


def some_books():
    """Books of two to six machines, with none to six tests."""
    books = []
    for many in range(2, 7):
        for k in range(0, len(LOTS), 5):
            books.append((LOTS[k], manners_for(many, k + many)))
        books.append((TESTS, ((True, WORDS),) * many))
        books.append(((), ((False, ()),) * many))
    return books


def all_small_books(lots, manners):
    """All books of two machines of these lots and manners."""
    return [(tests, pair) for tests in lots for pair in product(manners, repeat=2)]
