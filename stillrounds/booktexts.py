"""Books and worlds as texts, and back."""

from stillrounds.books import is_notes, tests_error, world_error
from stillrounds.errors import BadBook, BadText
from stillrounds.shapes import is_many

NO_TESTS = "tests none"
TESTS_HEAD = "tests "
WAITS = "waits"
ANY_TIME = "any time"


def tests_line(tests):
    if not tests:
        return NO_TESTS
    return TESTS_HEAD + ", ".join(["=".join(test) for test in tests])


def manner_line(manner):
    waits, notes = manner
    head = WAITS if waits else ANY_TIME
    if not notes:
        return head
    return head + ": " + ", ".join(notes)


def book_text(book):
    """The text of a book: a line for its tests, then one for each manner."""
    tests, manners = book
    return "\n".join([tests_line(tests)] + [manner_line(manner) for manner in manners])


def world_text(world):
    """The text of a world: its two words."""
    return ", ".join(world)


def tests_of(line):
    """The tests that line tells; None if it is not built as told."""
    if line == NO_TESTS:
        return ()
    if not line.startswith(TESTS_HEAD):
        return None
    tests = tuple([tuple(told.split("=")) for told in line[len(TESTS_HEAD):].split(", ")])
    return tests if tests_error(tests) is None else None


def manner_of(line):
    """The manner that line tells; None if it is not built as told."""
    head, colon, told = line.partition(": ")
    # Behind a colon there are words: nothing split is one empty word, which is no note.
    notes = tuple(told.split(", ")) if colon else ()
    if head not in (WAITS, ANY_TIME) or not is_notes(notes):
        return None
    return (head == WAITS, notes)


def manners_of(lines):
    """The manners that the lines of a text behind its line 0 tell."""
    manners = []
    for number, line in enumerate(lines, start=1):
        manner = manner_of(line)
        if manner is None:
            raise BadText(number)
        manners.append(manner)
    return tuple(manners)


def read_book(value):
    """The book whose text value is."""
    if not isinstance(value, str):
        raise BadText(0)
    lines = value.split("\n")
    tests = tests_of(lines[0])
    if tests is None:
        raise BadText(0)
    manners = manners_of(lines[1:])
    if not is_many(len(manners)):
        raise BadBook("manners")
    return (tests, manners)


def read_world(value):
    """The world whose text value is."""
    if not isinstance(value, str):
        raise BadText(0)
    world = tuple(value.split(", "))
    if world_error(world) is not None:
        raise BadText(0)
    return world
