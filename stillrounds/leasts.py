"""What can be left out of a safe book, and how few words have to be noted."""

from stillrounds.books import NOTES
from stillrounds.errors import Unfit
from stillrounds.parts import with_item, without
from stillrounds.placing import has_sides, has_tests
from stillrounds.rows import rows
from stillrounds.safety import is_safe
from stillrounds.shapes import is_many


def books_with_less(book):
    """Pairs of what is left out and of the book without it, for all that can be left out of book."""
    tests, manners = book
    found = [(("test", test), (without(tests, test), manners)) for test in tests]
    for machine, (waits, notes) in enumerate(manners):
        for word in notes:
            less = with_item(manners, machine, (waits, without(notes, word)))
            found.append((("note", machine, word), (tests, less)))
        if waits:
            found.append((("waits", machine), (tests, with_item(manners, machine, (False, notes)))))
    return found


def needless(book, world):
    """What can be left out of book, each by itself, so that it stays safe."""
    if not is_safe(book, world):
        raise Unfit()
    return tuple(sorted([name for name, less in books_with_less(book) if is_safe(less, world)]))


def rows_to_bar(tests, world):
    """The rows to which a book of these tests can fall though all its machines wait."""
    found = []
    for row in rows(world):
        if has_tests(row, tests) and not any([awake for awake, _ in row[1]]):
            found.append(row)
    return found


def way_with_cut(entries, cut, many):
    """The way in which machines below the cut bar the first entry, and those above it the second one."""
    below, above = (entries[0],), (entries[1],)
    return [below] * cut + [()] + [above] * (many - cut - 1)


def ways_to_bar(row, many):
    """All ways to see to it that many waiting machines do not fall to row.

    A way tells for each machine the tuple of the entries' words of which it has to note one at least.
    """
    entries = [words for _, words in row[1]]
    if row[2] == "below":
        # The cut is the least machine that meets the first entry: only those above it would matter for the second one.
        return [way_with_cut(entries, cut, many) for cut in range(many)]
    return [[(words,)] * many for words in entries]


def plans_for(tests, many, world):
    """All ways to see to it that many waiting machines of these tests fall to no row of world."""
    plans = [[()] * many]
    for row in rows_to_bar(tests, world):
        ways = ways_to_bar(row, many)
        plans = [[had + more for had, more in zip(plan, way)] for plan in plans for way in ways]
    return plans


def note_choices():
    """All ascending tuples of words of notes, those of fewest words ahead."""
    found = [()]
    for word in NOTES:
        found = found + [notes + (word,) for notes in found]
    return sorted(found, key=len)


def fewest_for(barred, machine, many):
    """The fewest words that machine has to note to have one of each of barred that can happen to it."""
    asked = [words for words in barred if has_sides(many, machine, words)]
    fitting = [notes for notes in note_choices() if all([any([word in notes for word in words]) for words in asked])]
    return fitting[0]


def words_noted(manners):
    """How many words are noted, all machines together."""
    return sum([len(notes) for _, notes in manners])


def fewest_notes(tests, many, world):
    """The least number of words noted by many waiting machines of a safe book of these tests, and such a book."""
    if not is_many(many):
        raise Unfit()
    found = [
        tuple([(True, fewest_for(barred, machine, many)) for machine, barred in enumerate(plan)])
        for plan in plans_for(tests, many, world)
    ]
    if not found:
        return None
    manners = min(found, key=words_noted)
    return (words_noted(manners), (tests, manners))
