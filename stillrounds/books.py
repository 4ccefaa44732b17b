"""Books and worlds: which equalities are tested, what each machine notes, how letters and tours go."""

from stillrounds.errors import Unfit
from stillrounds.shapes import is_ascending, is_many, is_tuple_of

TESTS = (("G1", "G2"), ("G1", "S1"), ("G1", "S2"), ("G2", "S1"), ("G2", "S2"), ("S1", "S2"))
NOTES = ("got higher", "got lower", "sent higher", "sent lower")
ROADS = ("slow", "at once")
TOURS = ("alike", "anew")


def is_notes(value):
    """Whether value is an ascending tuple of unlike words of notes."""
    if not isinstance(value, tuple):
        return False
    # Only words are compared by "<": items of other kinds could not be.
    return all([word in NOTES for word in value]) and is_ascending(value)


def is_manner(value):
    return is_tuple_of(value, 2) and isinstance(value[0], bool) and is_notes(value[1])


def tests_error(tests):
    """What is wrong with a tuple of tests; None if nothing is."""
    for k, test in enumerate(tests):
        if test not in TESTS:
            return ("test", k)
    return None if is_ascending(tests) else "tests"


def manners_error(manners):
    """What is wrong with a tuple of manners; None if nothing is."""
    if not is_many(len(manners)):
        return "manners"
    for i, manner in enumerate(manners):
        if not is_manner(manner):
            return ("manner", i)
    return None


def book_error(value):
    """The first thing that is wrong with value as a book; None if it is one."""
    if not is_tuple_of(value, 2):
        return "form"
    tests, manners = value
    if not isinstance(tests, tuple) or not isinstance(manners, tuple):
        return "form"
    error = tests_error(tests)
    return manners_error(manners) if error is None else error


def world_error(value):
    """The first thing that is wrong with value as a world; None if it is one."""
    if not is_tuple_of(value, 2):
        return "form"
    if value[0] not in ROADS:
        return "roads"
    return None if value[1] in TOURS else "tours"


def alike_for(tests, manner, many):
    """The book of these tests for many machines, all of the same manner."""
    if not is_many(many):
        raise Unfit()
    return (tests, (manner,) * many)
