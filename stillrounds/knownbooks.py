"""Books that are known by a name, and the worlds in which they are safe."""

from stillrounds.books import alike_for
from stillrounds.errors import Unfit

# Each row: the name, the tests, what every machine notes, the worlds in which the book is safe.
KNOWN = (
    ("colours", (), ("sent lower",),
     (("at once", "alike"),)),
    ("colours both ways", (), ("sent higher", "sent lower"),
     (("at once", "alike"), ("at once", "anew"))),
    ("early sum", (("G1", "S1"),), ("sent higher",),
     (("at once", "alike"), ("slow", "alike"))),
    ("four counts", (("G1", "S2"),), (),
     (("at once", "alike"), ("at once", "anew"), ("slow", "alike"), ("slow", "anew"))),
    ("half sum", (("G2", "S2"),), ("got lower",),
     (("at once", "alike"), ("slow", "alike"))),
    ("sent twice", (("S1", "S2"),), (),
     (("at once", "alike"), ("at once", "anew"))),
    ("sum and colours", (("G2", "S2"),), ("got higher", "got lower"),
     (("at once", "alike"), ("at once", "anew"), ("slow", "alike"), ("slow", "anew"))),
)


def row_of(name):
    """The row of KNOWN with this name."""
    for row in KNOWN:
        if row[0] == name:
            return row
    raise Unfit()


def known_names():
    """The names of the known books."""
    return tuple([row[0] for row in KNOWN])


def known_book(name, many):
    """The known book of this name for many machines."""
    row = row_of(name)
    return alike_for(row[1], (True, row[2]), many)


def known_worlds(name):
    """The worlds in which the known book of this name is safe, however many machines there are."""
    return row_of(name)[3]
