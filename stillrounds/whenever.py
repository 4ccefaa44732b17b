"""Which book says whenever another one says, where all machines wait, roads are slow and tours alike."""

from stillrounds.doubles import double_by
from stillrounds.errors import Unfit
from stillrounds.events import place_of_noting, rows_failing, rows_noting
from stillrounds.judging import has_run_form, led_as_far, led_in_bounds
from stillrounds.placing import has_tests, notes_that_happen, placings

WORLD = ("slow", "alike")


def check_fit(one, other):
    """Raises Unfit unless both books are of as many machines, all of which wait."""
    if len(one[1]) != len(other[1]) or not all([waits for waits, _ in one[1] + other[1]]):
        raise Unfit()


def ways_to_fall(one, row):
    """All ways to name machines of one for the entries of row, so that one falls to it."""
    return placings(one[1], row) if has_tests(row, one[0]) else []


def way_to_fail(one, test):
    """A row by which one can say though test fails, and the machines of its entries; None if there is none."""
    for row in rows_failing(test):
        ways = ways_to_fall(one, row)
        if ways:
            return (row, ways[0])
    return None


def way_to_note(one, machine, word):
    """The same where machine notes that word happened to it."""
    for row in rows_noting(word):
        ways = [machines for machines in ways_to_fall(one, row) if machines[place_of_noting(row)] == machine]
        if ways:
            return (row, ways[0])
    return None


def way_to_part(one, other):
    """A row by which one can say and other not, and the machines of its entries; None if there is none."""
    for test in other[0]:
        way = way_to_fail(one, test)
        if way is not None:
            return way
    for machine, word in notes_that_happen(other[1]):
        way = way_to_note(one, machine, word)
        if way is not None:
            return way
    return None


def says_whenever(one, other):
    """Whether other says at the end of each double at the end of which one says."""
    check_fit(one, other)
    return way_to_part(one, other) is None


def parting(one, other):
    """A double at the end of which one says, and other does not; None if there is none."""
    check_fit(one, other)
    way = way_to_part(one, other)
    return None if way is None else double_by(len(one[1]), way[0], way[1])


def are_two_rounds(many, deeds):
    """Whether deeds have just as many visits as two rounds of many machines, the last deed being one."""
    visits = [deed for deed in deeds if deed[0] == "visit"]
    return len(visits) == 2 * many and deeds[-1][0] == "visit"


def parting_error(one, other, value):
    """The first thing that is wrong with value as a double at the end of which one says, and other does not."""
    check_fit(one, other)
    many = len(one[1])
    if not has_run_form(value, many):
        return "form"
    works, deeds = value
    standing, place = led_in_bounds(one, WORLD, works, deeds)
    if place is not None:
        return ("deed", place)
    if not are_two_rounds(many, deeds):
        return "visits"
    if standing[4] == "no":
        return "one"
    # What one can do other can, too: neither can say ahead of the last visit.
    return "other" if led_as_far(other, WORLD, works, deeds)[0][4] != "no" else None
