"""The rows as the document prints them, and an own placing of their entries at machines."""

from itertools import product

from tests.bookkinds import TESTS, WORDS, WORLDS

SLOW, ONCE, SLOW_ANEW, ONCE_ANEW = ("slow", "alike"), ("at once", "alike"), ("slow", "anew"), ("at once", "anew")
TABLES = {
    SLOW: """
        0 | G1=G2, S1=S2 | none
        1 | G2=S1, G2=S2, S1=S2 | got lower
        2 | G2=S1 | got higher, sent lower
        3 | G2=S1 | got higher, sent higher
        4 | G1=S1 | got higher, sent higher
        5 | G1=S1, G2=S2 | got higher, sent higher; got lower
        6 | G1=S1, G2=S2 | got lower, sent higher
        7 | G1=G2, G1=S1, G2=S1 | awake, sent lower
        8 | G1=G2, G1=S1, G2=S1 | awake, sent higher
        9 | G1=S1, G2=S2 | awake, sent lower; got lower
        10 | G1=S1, G2=S2 | awake, sent higher; got lower
    """,
    ONCE: """
        0 | G2=S1 | got higher, sent lower
        1 | G2=S2 | got higher, sent lower; got lower
        2 | G1=S1 | got higher, sent higher; got higher, sent lower
        3 | G1=S1, G2=S2 | got higher, sent higher; got higher, sent lower; got lower
        4 | G1=S1, G2=S2 | got higher, sent higher; got lower, sent lower (below)
        5 | G1=G2, G1=S1, G2=S1 | awake, sent lower
        6 | G1=S1, G2=S2 | awake, sent lower; got lower
        7 | G1=S1 | awake, sent higher; got higher, sent lower
        8 | G1=S1, G2=S2 | awake, sent higher; got higher, sent lower; got lower
        9 | G1=S1, G2=S2 | awake, sent higher; got lower, sent lower (below)
    """,
    SLOW_ANEW: """
        0 | G1=G2, S1=S2 | none
        1, 2 | G2=S1, G2=S2, S1=S2 | got e
        3 to 6 | G1=S1, G2=S2 | got e, sent d
        7, 8 | G1=G2, G1=S1, G2=S1 | awake, sent d
        9 to 12 | G1=S1, G2=S2 | awake, sent d; got e
    """,
    ONCE_ANEW: """
        0 to 3 | G2=S1 | got e, sent d
        4 to 7 | G1=S1, G2=S2 | got e, sent d
        8, 9 | G1=G2, G1=S1, G2=S1 | awake, sent d
        10 to 13 | G1=S1, G2=S2 | awake, sent d; got e (third)
    """,
}


def entries_told(told):
    """The entries and the extra of the last column of a table."""
    told, _, extra = told.partition(" (")
    entries = []
    for each in told.split("; ") if told != "none" else []:
        parts = each.split(", ")
        words = tuple(part for part in parts if part != "awake")
        entries.append(("awake" in parts, words))
    return tuple(entries), extra.rstrip(")")


def rows_told(world):
    """The rows of a world; e and d are "higher", then "lower", each in turn, d outside."""
    found = []
    for line in TABLES[world].strip().split("\n"):
        numbers, equalities, told = line.strip().split(" | ")
        tests = tuple(tuple(test.split("=")) for test in equalities.split(", "))
        sides = ("higher", "lower")
        for d in sides if " d" in told else sides[:1]:
            for e in sides if " e" in told else sides[:1]:
                exact = told.replace("sent d", "sent " + d).replace("got e", "got " + e)
                found.append((tests,) + entries_told(exact))
        assert int(numbers.replace(",", "").split(" ")[-1]) == len(found) - 1
    return tuple(found)


ROWS = {world: rows_told(world) for world in WORLDS}


def machine_meets(manners, machine, entry):
    awake, words = entry
    waits, notes = manners[machine]
    others = {"higher": range(machine + 1, len(manners)), "lower": range(machine)}
    return not set(words) & set(notes) and not (awake and waits) and all(others[word.split(" ")[1]] for word in words)


def extra_holds(many, row, machines):
    _, entries, extra = row
    if extra == "below":
        return machines[0] < machines[1]
    if extra == "third":
        first, second = machines
        side = range(first + 1, many) if entries[0][1] == ("sent higher",) else range(first)
        return bool(set(side) - {second})
    return True


def placings(manners, row):
    """All ways in which the entries of a row can stand at the machines."""
    found = []
    for machines in product(range(len(manners)), repeat=len(row[1])):
        if all(machine_meets(manners, machine, entry) for machine, entry in zip(machines, row[1])):
            if extra_holds(len(manners), row, machines):
                found.append(machines)
    return found


def falls_told(book, world):
    """The numbers of the rows to which a book falls."""
    tests, manners = book
    return tuple(
        number for number, row in enumerate(ROWS[world]) if set(tests) <= set(row[0]) and placings(manners, row)
    )


def tight_manners(many, row, machines):
    """Manners that note, and wait, as much as can be, so that the entries stand at these machines just so."""
    manners = []
    for i in range(many):
        mine = [entry for entry, machine in zip(row[1], machines) if machine == i]
        missed = {word for _, words in mine for word in words}
        awake = any(entry[0] for entry in mine)
        manners.append((not awake, tuple(word for word in WORDS if word not in missed)))
    return tuple(manners)


def tight_books(world, many):
    """For each row, and each way in which its entries can stand: (number, machines, book)."""
    found = []
    for number, row in enumerate(ROWS[world]):
        for machines in placings(((False, ()),) * many, row):
            found.append((number, machines, (row[0], tight_manners(many, row, machines))))
    return found


def with_manner(book, machine, manner):
    tests, manners = book
    return (tests, manners[:machine] + (manner,) + manners[machine + 1:])


def stricter(book):
    """The books that test, note or wait one thing more."""
    tests, manners = book
    found = [(tuple(sorted(tests + (test,))), manners) for test in TESTS if test not in tests]
    for i, (waits, notes) in enumerate(manners):
        found += [
            with_manner(book, i, (waits, tuple(sorted(notes + (word,))))) for word in WORDS if word not in notes
        ]
        if not waits:
            found.append(with_manner(book, i, (True, notes)))
    return found


def looser(book):
    """What can be left out of a book: pairs of its name and the book without it."""
    tests, manners = book
    found = [(("test", test), (tuple(each for each in tests if each != test), manners)) for test in tests]
    for i, (waits, notes) in enumerate(manners):
        for word in notes:
            less = with_manner(book, i, (waits, tuple(each for each in notes if each != word)))
            found.append((("note", i, word), less))
        if waits:
            found.append((("waits", i), with_manner(book, i, (False, notes))))
    return found
