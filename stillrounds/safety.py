"""Which books are safe: those that fall to no row of their world."""

from stillrounds.books import alike_for
from stillrounds.placing import has_tests, placing
from stillrounds.rows import rows


def falls_to(book, row):
    tests, manners = book
    return has_tests(row, tests) and placing(manners, row) is not None


def falls(book, world):
    """The numbers of the rows of world to which book falls."""
    return tuple([number for number, row in enumerate(rows(world)) if falls_to(book, row)])


def is_safe(book, world):
    """Whether book is never too early in world."""
    return falls(book, world) == ()


def safe_from(tests, manner, world):
    """The least number of like machines with which the book of these tests is not safe; None if there is none."""
    # Three like machines tell of all numbers: one between two others can stand for each entry.
    for many in (2, 3):
        if not is_safe(alike_for(tests, manner, many), world):
            return many
    return None
