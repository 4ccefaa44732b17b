"""The tables of [J4] as the document prints them, an own placing of their rows, and pairs of waiting books."""

import random
from itertools import product

from tests.bookkinds import TESTS, WORDS

SIDES = ("higher", "lower")
FIRST_TABLE = """
    | G1 = G2 | G1 = S1, G2 = S2; x got d, sent higher |
    | | G2 = S1, G2 = S2, S1 = S2; y got d |
    | G1 = S1 | G1 = G2, S1 = S2; nobody |
    | | G2 = S1, G2 = S2, S1 = S2; y got d |
    | G1 = S2 | the three rows of G1 = G2 and of G1 = S1 together |
    | G2 = S1 | G1 = G2, S1 = S2; nobody |
    | | G1 = S1, G2 = S2; x got d, sent higher |
    | | G2 = S2; x got lower, sent lower |
    | | G2 = S2; x got higher, sent lower; y got lower |
    | | G2 = S2; x got higher, sent lower; z got higher, z less than x |
    | G2 = S2 | G1 = G2, S1 = S2; nobody |
    | | G1 = S1; x got d, sent higher |
    | | G2 = S1; x got d, sent e |
    | S1 = S2 | G2 = S1; x got d, sent e |
    | | G1 = S1, G2 = S2; x got d, sent higher |
    | | the last three rows of G2 = S1 |
"""
SECOND_TABLE = """
    | got d | G2 = S1, G2 = S2, S1 = S2; m got d |
    | | G1 = S1, G2 = S2; m got d; x got e, sent higher |
    | sent higher | G2 = S1; m got d, sent higher |
    | | G1 = S1, G2 = S2; m got d, sent higher |
    | sent lower | G2 = S1; m got d, sent lower |
    | | G1 = S1; m got d, sent lower; x got e, sent higher |
    | | G2 = S2; m got lower, sent lower |
    | | G2 = S2; m got higher, sent lower; y got lower |
    | | G2 = S2; m got higher, sent lower; z got higher, z less than m |
    | | G1 = S1, G2 = S2; m got lower, sent lower; x got e, sent higher |
    | | G1 = S1, G2 = S2; m got higher, sent lower; x got lower, sent higher |
    | | G1 = S1, G2 = S2; m got higher, sent lower; x got higher, sent higher; y got lower |
    | | G1 = S1, G2 = S2; m got higher, sent lower; x got higher, sent higher; z got higher, z less than m |
"""


def row_told(told):
    """A row: its equalities, the words of each machine, and the pairs of which the first one is to be less."""
    equalities, *entries = told.split("; ")
    tests = tuple(tuple(test.split(" = ")) for test in equalities.split(", "))
    words, less = {}, []
    for entry in entries:
        if entry == "nobody":
            continue
        name, _, parts = entry.partition(" ")
        for part in parts.split(", "):
            if " less than " in part:
                less.append(tuple(part.split(" less than ")))
            else:
                words.setdefault(name, []).append(part)
    return tests, words, less


def rows_by_event(table):
    found, event = {}, None
    for line in table.strip().split("\n"):
        _, name, told, _ = (part.strip() for part in line.strip().split("|"))
        event = name or event
        rows = found.setdefault(event, [])
        if told == "the three rows of G1 = G2 and of G1 = S1 together":
            rows += [row for other in ("G1 = G2", "G1 = S1") for row in found[other] if row not in rows]
            rows[:] = [row for at, row in enumerate(rows) if row not in rows[:at]]
            assert len(rows) == 3
        elif told == "the last three rows of G2 = S1":
            rows += found["G2 = S1"][-3:]
        else:
            rows.append(row_told(told))
    return found


FAILING = {tuple(event.split(" = ")): rows for event, rows in rows_by_event(FIRST_TABLE).items()}
assert tuple(sorted(FAILING)) == TESTS
_NOTED = rows_by_event(SECOND_TABLE)
NOTED = {word: _NOTED.get(word, _NOTED["got d"]) for word in WORDS}


def sides_there(many, machine, word):
    return machine > 0 if word.endswith("lower") else machine < many - 1


def ways(many, row, fixed):
    """All ways in which a row can stand: for each a dict of the words of each machine.

    fixed tells which machine m is, and which side d is, where the event tells it.
    """
    tests, words, less = row
    names = sorted(words)
    found = []
    for machines in product(range(many), repeat=len(names)):
        at = dict(zip(names, machines))
        if fixed.get("m", at.get("m")) != at.get("m", fixed.get("m")) or any(at[one] >= at[two] for one, two in less):
            continue
        for d, e in product([fixed["d"]] if "d" in fixed else SIDES, SIDES):
            way = {}
            for name in names:
                for word in words[name]:
                    first, _, side = word.partition(" ")
                    way.setdefault(at[name], set()).add(first + " " + {"d": d, "e": e}.get(side, side))
            if all(sides_there(many, machine, word) for machine, told in way.items() for word in told):
                if way not in found:
                    found.append(way)
    return found


def events_of(other):
    """The events of a book: what is fixed by each, and its rows."""
    tests, manners = other
    found = [(test, {}, FAILING[test]) for test in tests]
    for machine, (_, notes) in enumerate(manners):
        for word in notes:
            if sides_there(len(manners), machine, word):
                fixed = {"m": machine}
                if word.startswith("got"):
                    fixed["d"] = word.partition(" ")[2]
                found.append(((machine, word), fixed, NOTED[word]))
    return found


def falls_by(one, other):
    """The events of other by which one falls to a row."""
    tests, manners = one
    found = []
    for event, fixed, rows in events_of(other):
        for row in rows:
            if set(tests) <= set(row[0]):
                if any(not any(words & set(manners[i][1]) for i, words in way.items())
                       for way in ways(len(manners), row, fixed)):
                    found.append(event)
                    break
    return found


def book_of_event(many, event):
    """The book that asks nothing but this event."""
    if event in TESTS:
        return ((event,), ((True, ()),) * many)
    machine, word = event
    return ((), tuple((True, (word,) if i == machine else ()) for i in range(many)))


def all_events(many):
    return list(TESTS) + [
        (machine, word) for machine in range(many) for word in WORDS if sides_there(many, machine, word)
    ]


def tight_ones(many):
    """For each event, each of its rows and each way in which it can stand: (event, way, the book that asks most)."""
    found = []
    for event in all_events(many):
        other = book_of_event(many, event)
        for _, fixed, rows in events_of(other):
            for row in rows:
                for way in ways(many, row, fixed):
                    manners = tuple(
                        (True, tuple(word for word in WORDS if word not in way.get(i, ()))) for i in range(many)
                    )
                    found.append((event, way, (row[0], manners)))
    return found


def waiting_book(draw, many):
    """A book all machines of which wait."""
    share, most = draw.choice((0, 0.1, 0.3, 0.6, 0.85)), draw.choice((0.05, 0.2, 0.4))
    tests = tuple(test for test in TESTS if draw.random() < most)
    return (tests, tuple((True, tuple(word for word in WORDS if draw.random() < share)) for _ in range(many)))


def near_book(draw, book):
    """A book that asks one thing more or less."""
    tests, manners = book
    if draw.random() < 0.3:
        test = draw.choice(TESTS)
        return (tuple(each for each in TESTS if (each in tests) != (each == test)), manners)
    i, word = draw.randrange(len(manners)), draw.choice(WORDS)
    notes = tuple(each for each in WORDS if (each in manners[i][1]) != (each == word))
    return (tests, manners[:i] + ((True, notes),) + manners[i + 1:])


def pairs_of_books(seed, how_many):
    """Pairs of waiting books of two to six machines: near ones, any ones, ones that ask for a single thing."""
    draw = random.Random(seed)
    for at in range(how_many):
        many = 2 + at % 5
        one = waiting_book(draw, many)
        kind = draw.randrange(4)
        if kind == 0:
            yield one, near_book(draw, one)
        elif kind == 1:
            yield one, waiting_book(draw, many)
        elif kind == 2:
            yield one, near_book(draw, near_book(draw, one))
        else:
            yield one, book_of_event(many, draw.choice(all_events(many)))
