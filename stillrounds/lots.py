"""Which tests hold together of two neighbouring rounds, where all machines wait, roads are slow and tours alike."""

LOTS = (
    (),
    (("G1", "G2"), ("G1", "S1"), ("G1", "S2"), ("G2", "S1"), ("G2", "S2"), ("S1", "S2")),
    (("G1", "G2"), ("S1", "S2")),
    (("G1", "S1"),),
    (("G1", "S1"), ("G2", "S2")),
    (("G2", "S1"),),
    (("G2", "S1"), ("G2", "S2"), ("S1", "S2")),
    (("G2", "S2"),),
    (("S1", "S2"),),
)


def lots():
    """The lots of tests that hold, all of them and no others, of two neighbouring rounds."""
    return LOTS


def least_lot(tests):
    """The lot with fewest tests among those that have all of tests."""
    return min([lot for lot in LOTS if all([test in lot for test in tests])], key=len)
