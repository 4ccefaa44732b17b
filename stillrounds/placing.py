"""At which machines of a book the entries of a row stand."""


def is_above(word):
    """Whether word tells of a machine of a higher number; otherwise it tells of one of a lower number."""
    return word.endswith("higher")


def beside(machine, word):
    """The next machine on the side of which word tells."""
    return machine + 1 if is_above(word) else machine - 1


def has_sides(many, machine, words):
    """Whether there are machines, of many, of which these words can tell at machine."""
    return all([machine < many - 1 if is_above(word) else machine > 0 for word in words])


def notes_that_happen(manners):
    """Pairs of a machine and a word that it notes and that can happen to it, the least machine ahead."""
    many = len(manners)
    return [
        (machine, word) for machine, (_, notes) in enumerate(manners) for word in notes
        if has_sides(many, machine, (word,))
    ]


def meets(manners, machine, entry):
    awake, words = entry
    waits, notes = manners[machine]
    if waits and awake:
        return False
    return has_sides(len(manners), machine, words) and not any([word in notes for word in words])


def has_tests(row, tests):
    """Whether all tests are among the equalities of row."""
    return all([test in row[0] for test in tests])


def thirds(many, entries, placed):
    """The machines that can be the third one beside the two at which the entries are placed."""
    first, second = placed
    above = is_above(entries[0][1][0])
    return [third for third in range(many) if third != second and (third > first if above else third < first)]


def keeps_extra(many, row, placed):
    """Whether these machines stand to each other as the row's extra asks."""
    if row[2] == "below":
        return placed[0] < placed[1]
    return row[2] != "third" or len(thirds(many, row[1], placed)) > 0


def placings(manners, row):
    """All ways to name a machine for each entry of row, in order, that meets it, as the row asks."""
    many = len(manners)
    found = [()]
    for entry in row[1]:
        fitting = [machine for machine in range(many) if meets(manners, machine, entry)]
        found = [placed + (machine,) for placed in found for machine in fitting]
    return [placed for placed in found if keeps_extra(many, row, placed)]


def placing(manners, row):
    """A machine for each entry of row, in order, that meets it; None if there are none as the row asks."""
    found = placings(manners, row)
    return found[0] if found else None
