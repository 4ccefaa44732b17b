"""What makes a waiting book not say, and the rows by which that can happen though another book says.

An event is an equality that fails, or a word that a machine notes. A row is a triple (equalities, entries, extra):
all its equalities hold, and nothing happens between the two visits of any machine but the words of its entries, each
entry's at one machine. In words d and e stand for either side. If extra is "below" the machine of the first entry is
below that of the second one. Where a machine notes a word its entry is the first one, but the second one of these.
"""

SIDES = ("higher", "lower")

# By which rows each equality fails.
FAILING = {
    ("G1", "G2"): (
        ((("G1", "S1"), ("G2", "S2")), (("got d", "sent higher"),), ""),
        ((("G2", "S1"), ("G2", "S2"), ("S1", "S2")), (("got d",),), ""),
    ),
    ("G1", "S1"): (
        ((("G1", "G2"), ("S1", "S2")), (), ""),
        ((("G2", "S1"), ("G2", "S2"), ("S1", "S2")), (("got d",),), ""),
    ),
    ("G1", "S2"): (
        ((("G1", "S1"), ("G2", "S2")), (("got d", "sent higher"),), ""),
        ((("G2", "S1"), ("G2", "S2"), ("S1", "S2")), (("got d",),), ""),
        ((("G1", "G2"), ("S1", "S2")), (), ""),
    ),
    ("G2", "S1"): (
        ((("G1", "G2"), ("S1", "S2")), (), ""),
        ((("G1", "S1"), ("G2", "S2")), (("got d", "sent higher"),), ""),
        ((("G2", "S2"),), (("got lower", "sent lower"),), ""),
        ((("G2", "S2"),), (("got higher", "sent lower"), ("got lower",)), ""),
        ((("G2", "S2"),), (("got higher",), ("got higher", "sent lower")), "below"),
    ),
    ("G2", "S2"): (
        ((("G1", "G2"), ("S1", "S2")), (), ""),
        ((("G1", "S1"),), (("got d", "sent higher"),), ""),
        ((("G2", "S1"),), (("got d", "sent e"),), ""),
    ),
    ("S1", "S2"): (
        ((("G2", "S1"),), (("got d", "sent e"),), ""),
        ((("G1", "S1"), ("G2", "S2")), (("got d", "sent higher"),), ""),
        ((("G2", "S2"),), (("got lower", "sent lower"),), ""),
        ((("G2", "S2"),), (("got higher", "sent lower"), ("got lower",)), ""),
        ((("G2", "S2"),), (("got higher",), ("got higher", "sent lower")), "below"),
    ),
}

# By which rows each word happens to a machine that notes it.
NOTED = {
    "got higher": (
        ((("G2", "S1"), ("G2", "S2"), ("S1", "S2")), (("got higher",),), ""),
        ((("G1", "S1"), ("G2", "S2")), (("got higher",), ("got e", "sent higher")), ""),
    ),
    "got lower": (
        ((("G2", "S1"), ("G2", "S2"), ("S1", "S2")), (("got lower",),), ""),
        ((("G1", "S1"), ("G2", "S2")), (("got lower",), ("got e", "sent higher")), ""),
    ),
    "sent higher": (
        ((("G2", "S1"),), (("got d", "sent higher"),), ""),
        ((("G1", "S1"), ("G2", "S2")), (("got d", "sent higher"),), ""),
    ),
    "sent lower": (
        ((("G2", "S1"),), (("got d", "sent lower"),), ""),
        ((("G1", "S1"),), (("got d", "sent lower"), ("got e", "sent higher")), ""),
        ((("G2", "S2"),), (("got lower", "sent lower"),), ""),
        ((("G2", "S2"),), (("got higher", "sent lower"), ("got lower",)), ""),
        ((("G2", "S2"),), (("got higher",), ("got higher", "sent lower")), "below"),
        ((("G1", "S1"), ("G2", "S2")), (("got lower", "sent lower"), ("got e", "sent higher")), ""),
        ((("G1", "S1"), ("G2", "S2")), (("got higher", "sent lower"), ("got lower", "sent higher")), ""),
        ((("G1", "S1"), ("G2", "S2")),
         (("got higher", "sent lower"), ("got higher", "sent higher"), ("got lower",)), ""),
        ((("G1", "S1"), ("G2", "S2")),
         (("got higher",), ("got higher", "sent lower"), ("got higher", "sent higher")), "below"),
    ),
}


def with_side(words, sign, side):
    """The words, where sign stands for this side."""
    return tuple([word[:-1] + side if word.endswith(" " + sign) else word for word in words])


def exact_row(row, d, e):
    """The row with these sides in the place of d and of e, its entries as those of the rows of worlds."""
    equalities, entries, extra = row
    exact = [with_side(with_side(words, "d", d), "e", e) for words in entries]
    # As all machines wait no entry is awake.
    return (equalities, tuple([(False, words) for words in exact]), extra)


def spelled_out(rows):
    """The rows with each side in the place of d and of e."""
    found = []
    for row in rows:
        for d in SIDES:
            for e in SIDES:
                exact = exact_row(row, d, e)
                if exact not in found:
                    found.append(exact)
    return found


def rows_failing(test):
    """The rows by which test fails."""
    return spelled_out(FAILING[test])


def rows_noting(word):
    """The rows by which word happens to a machine that notes it."""
    return spelled_out(NOTED[word])


def place_of_noting(row):
    """At which place of the entries the machine stands that notes a word."""
    return 1 if row[2] == "below" else 0
