"""The rows of each world: what can come about though work goes on.

A row is a triple (equalities, entries, extra), an entry a pair (awake, words).
"""

SLOW_ALIKE = (
    ((("G1", "G2"), ("S1", "S2")), (), ""),
    ((("G2", "S1"), ("G2", "S2"), ("S1", "S2")), ((False, ("got lower",)),), ""),
    ((("G2", "S1"),), ((False, ("got higher", "sent lower")),), ""),
    ((("G2", "S1"),), ((False, ("got higher", "sent higher")),), ""),
    ((("G1", "S1"),), ((False, ("got higher", "sent higher")),), ""),
    ((("G1", "S1"), ("G2", "S2")), ((False, ("got higher", "sent higher")), (False, ("got lower",))), ""),
    ((("G1", "S1"), ("G2", "S2")), ((False, ("got lower", "sent higher")),), ""),
    ((("G1", "G2"), ("G1", "S1"), ("G2", "S1")), ((True, ("sent lower",)),), ""),
    ((("G1", "G2"), ("G1", "S1"), ("G2", "S1")), ((True, ("sent higher",)),), ""),
    ((("G1", "S1"), ("G2", "S2")), ((True, ("sent lower",)), (False, ("got lower",))), ""),
    ((("G1", "S1"), ("G2", "S2")), ((True, ("sent higher",)), (False, ("got lower",))), ""),
)

ONCE_ALIKE = (
    ((("G2", "S1"),), ((False, ("got higher", "sent lower")),), ""),
    ((("G2", "S2"),), ((False, ("got higher", "sent lower")), (False, ("got lower",))), ""),
    ((("G1", "S1"),), ((False, ("got higher", "sent higher")), (False, ("got higher", "sent lower"))), ""),
    ((("G1", "S1"), ("G2", "S2")),
     ((False, ("got higher", "sent higher")), (False, ("got higher", "sent lower")), (False, ("got lower",))), ""),
    ((("G1", "S1"), ("G2", "S2")),
     ((False, ("got higher", "sent higher")), (False, ("got lower", "sent lower"))), "below"),
    ((("G1", "G2"), ("G1", "S1"), ("G2", "S1")), ((True, ("sent lower",)),), ""),
    ((("G1", "S1"), ("G2", "S2")), ((True, ("sent lower",)), (False, ("got lower",))), ""),
    ((("G1", "S1"),), ((True, ("sent higher",)), (False, ("got higher", "sent lower"))), ""),
    ((("G1", "S1"), ("G2", "S2")),
     ((True, ("sent higher",)), (False, ("got higher", "sent lower")), (False, ("got lower",))), ""),
    ((("G1", "S1"), ("G2", "S2")), ((True, ("sent higher",)), (False, ("got lower", "sent lower"))), "below"),
)

SLOW_ANEW = (
    ((("G1", "G2"), ("S1", "S2")), (), ""),
    ((("G2", "S1"), ("G2", "S2"), ("S1", "S2")), ((False, ("got higher",)),), ""),
    ((("G2", "S1"), ("G2", "S2"), ("S1", "S2")), ((False, ("got lower",)),), ""),
    ((("G1", "S1"), ("G2", "S2")), ((False, ("got higher", "sent higher")),), ""),
    ((("G1", "S1"), ("G2", "S2")), ((False, ("got lower", "sent higher")),), ""),
    ((("G1", "S1"), ("G2", "S2")), ((False, ("got higher", "sent lower")),), ""),
    ((("G1", "S1"), ("G2", "S2")), ((False, ("got lower", "sent lower")),), ""),
    ((("G1", "G2"), ("G1", "S1"), ("G2", "S1")), ((True, ("sent higher",)),), ""),
    ((("G1", "G2"), ("G1", "S1"), ("G2", "S1")), ((True, ("sent lower",)),), ""),
    ((("G1", "S1"), ("G2", "S2")), ((True, ("sent higher",)), (False, ("got higher",))), ""),
    ((("G1", "S1"), ("G2", "S2")), ((True, ("sent higher",)), (False, ("got lower",))), ""),
    ((("G1", "S1"), ("G2", "S2")), ((True, ("sent lower",)), (False, ("got higher",))), ""),
    ((("G1", "S1"), ("G2", "S2")), ((True, ("sent lower",)), (False, ("got lower",))), ""),
)

ONCE_ANEW = (
    ((("G2", "S1"),), ((False, ("got higher", "sent higher")),), ""),
    ((("G2", "S1"),), ((False, ("got lower", "sent higher")),), ""),
    ((("G2", "S1"),), ((False, ("got higher", "sent lower")),), ""),
    ((("G2", "S1"),), ((False, ("got lower", "sent lower")),), ""),
    ((("G1", "S1"), ("G2", "S2")), ((False, ("got higher", "sent higher")),), ""),
    ((("G1", "S1"), ("G2", "S2")), ((False, ("got lower", "sent higher")),), ""),
    ((("G1", "S1"), ("G2", "S2")), ((False, ("got higher", "sent lower")),), ""),
    ((("G1", "S1"), ("G2", "S2")), ((False, ("got lower", "sent lower")),), ""),
    ((("G1", "G2"), ("G1", "S1"), ("G2", "S1")), ((True, ("sent higher",)),), ""),
    ((("G1", "G2"), ("G1", "S1"), ("G2", "S1")), ((True, ("sent lower",)),), ""),
    ((("G1", "S1"), ("G2", "S2")), ((True, ("sent higher",)), (False, ("got higher",))), "third"),
    ((("G1", "S1"), ("G2", "S2")), ((True, ("sent higher",)), (False, ("got lower",))), "third"),
    ((("G1", "S1"), ("G2", "S2")), ((True, ("sent lower",)), (False, ("got higher",))), "third"),
    ((("G1", "S1"), ("G2", "S2")), ((True, ("sent lower",)), (False, ("got lower",))), "third"),
)


def rows(world):
    """The rows of world, in the order of its table."""
    roads, tours = world
    if tours == "alike":
        return SLOW_ALIKE if roads == "slow" else ONCE_ALIKE
    return SLOW_ANEW if roads == "slow" else ONCE_ANEW
