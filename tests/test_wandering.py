"""[F1], [F2], [F3]: all standings that come with few letters, and the earliest runs among them."""

import random
import unittest

from stillrounds.errors import TooMany, Unfit
from stillrounds.losejudge import losing_error
from stillrounds.losing import losing
from stillrounds.safety import is_safe
from stillrounds.wandering import come, earliest
from tests.bookkinds import LOTS, MANNERS, WORDS, WORLDS
from tests.courses import Course, all_starts, course_of, how_many_come, least_early
from tests.helpers import CallCase, any_values, is_fixed, outcome
from tests.model import random_runs
from tests.rowtables import ONCE, SLOW, SLOW_ANEW

CALM, HASTY = (True, ()), (False, ())
SUMS = ((("G2", "S2"),), (CALM, CALM))
COUNTS = ((("G1", "G2"), ("S1", "S2")), (CALM, CALM))
EVERY = (True, WORDS)


def book_for(tests, manners):
    return (tests, tuple(manners))


# Each with how many standings come if all machines work, and the least number of deeds of a run that is too early.
AT_THE_BOUND = (
    (299, 8, book_for((("G1", "G2"), ("G1", "S1")), (
        (True, ("got higher", "sent higher")), (False, ("got higher", "sent higher")), (True, ("sent lower",)))), ONCE, 1),
    (299, None, book_for((("G1", "G2"), ("G2", "S1")), (
        (True, ("sent higher", "sent lower")), (False, ("got higher", "got lower", "sent lower")),
        (True, ("got lower",)))), ONCE, 1),
    (300, 8, book_for((), ((False, ("got higher",)), (True, ("got higher", "sent higher")))), ONCE, 2),
    (300, None, book_for((("G2", "S1"), ("G2", "S2")), (
        (True, ("got higher", "sent higher")), (False, ("got lower", "sent higher")),
        (True, ("got lower", "sent lower")))), ONCE, 1),
    (301, 8, book_for((), (
        (True, ("got higher", "got lower")), (False, ("got higher", "got lower", "sent higher")),
        (True, ("got higher", "sent higher")))), ONCE, 1),
    (301, None, book_for((("G1", "G2"), ("G1", "S1"), ("G2", "S1")), (
        (True, ("got lower",)), (False, ("sent higher", "sent lower")), CALM)), ONCE, 1),
    (302, 8, book_for((("G1", "G2"), ("G2", "S1")), (
        (True, ("got higher", "got lower", "sent higher")), (False, ("sent higher",)),
        (True, ("got lower", "sent higher", "sent lower")))), ONCE, 1),
    (302, None, book_for((("G1", "G2"), ("G1", "S1")), (
        (True, ("sent higher",)), (False, ("sent lower",)), (True, ("got higher", "got lower")))), ONCE, 1),
)
# The same of starts in which not all machines work.
COME_AT_THE_BOUND = (
    (300, book_for((("G1", "G2"), ("G2", "S1")), ((True, ("sent higher",)), (False, ("got higher", "sent higher")))),
     SLOW, (False, True), 2),
    (302, book_for((("G2", "S2"),), ((True, ("got lower", "sent lower")), (False, ("sent lower",)))),
     SLOW_ANEW, (True, False), 2),
    (302, book_for((("G1", "G2"),), (CALM, (True, ("got higher", "sent lower")), HASTY)), SLOW, (False, True, True), 1),
)


def mixed_books(seed, how_many, machines):
    draw = random.Random(seed)
    for at in range(how_many):
        many = machines[at // 4 % len(machines)]
        manners = [(draw.random() < 0.8, draw.choice(MANNERS[:8])[1]) for _ in range(many)]
        book = (draw.choice(LOTS[:22]), tuple(manners))
        yield book, WORLDS[at % 4], tuple(draw.random() < 0.6 for _ in range(many))


class Courses(unittest.TestCase):
    """What the numbers are held against does what the model does that works all out anew."""

    def test_courses(self):
        for book, world, works, deeds, standings in random_runs(1967, 160, 30):
            course = Course(book, world, works)
            for deed, standing in zip(deeds, standings[1:]):
                self.assertTrue(course.can(deed))
                self.assertIn(deed, course.deeds())
                course.do(deed)
                self.assertEqual(course.standing(), standing)


class Come(CallCase):
    def counted(self, book, world, works, letters):
        many = how_many_come(book, world, [works], letters)
        expected = "raises TooMany(300)" if many > 300 else repr(many)
        self.assertEqual(outcome(come, book, world, works, letters), expected, (book, world, works, letters))
        return min(many, 301)

    def test_by_place_and_by_name(self):
        for book, world, works in mixed_books(1959, 24, (2, 3)):
            for letters in range(3):
                first = self.outcome_of(come, {"book": book, "world": world, "works": works, "letters": letters})
                self.assertEqual(first, outcome(come, book, world, works, letters))

    def test_numbers_of_the_document(self):
        for book, world, works, numbers in (
                (SUMS, SLOW, (True, False), (6, 25, 103)), (SUMS, SLOW, (True, True), (9, 58, 269)),
                (SUMS, ONCE, (True, False), (6, 15, 41, 107)), (SUMS, ONCE, (False, False), (5, 5, 5, 5))):
            for letters, many in enumerate(numbers):
                self.tells(many, come, book=book, world=world, works=works, letters=letters)
        self.tells(101, come, book=((("G1", "S2"),), (CALM, CALM)), world=ONCE, works=(True, False), letters=3)
        self.raises(TooMany(300), come, book=SUMS, world=SLOW, works=(True, False), letters=3)
        self.raises(TooMany(300), come, book=COUNTS, world=SLOW, works=(True, True), letters=2)

    def test_two_machines(self):
        seen = {}
        for book, world, works in mixed_books(1960, 100, (2,)):
            for letters in range(4):
                seen[(world, letters, self.counted(book, world, works, letters) > 300)] = True
        for world in WORLDS:
            self.assertTrue(all((world, letters, False) in seen for letters in range(4)))

    def test_more_machines(self):
        told = [
            self.counted(book, world, works, letters)
            for book, world, works in mixed_books(1962, 64, (3, 4, 5, 6)) for letters in range(4)
        ]
        self.assertTrue(40 < told.count(301) < len(told) - 40)

    def test_few_letters_of_many_machines(self):
        for many in range(3, 7):
            for world in WORLDS:
                book = book_for((("G2", "S2"),), [CALM] * many)
                for busy in range(many + 1):
                    works = tuple(i < busy for i in range(many))
                    for letters in (0, 1):
                        self.counted(book, world, works, letters)

    def test_at_the_bound(self):
        numbers = []
        for many, _, book, world, letters in AT_THE_BOUND:
            works = (True,) * len(book[1])
            self.assertEqual(how_many_come(book, world, [works], letters), many)
            self.raises_or_tells(TooMany(300) if many > 300 else many, come, book=book, world=world, works=works,
                                 letters=letters)
            numbers.append(many)
        for many, book, world, works, letters in COME_AT_THE_BOUND:
            self.assertEqual(how_many_come(book, world, [works], letters), many)
            self.raises_or_tells(TooMany(300) if many > 300 else many, come, book=book, world=world, works=works,
                                 letters=letters)
            numbers.append(many)
        self.assertEqual(set(numbers), {299, 300, 301, 302})

    def test_no_number_of_letters(self):
        values = [value for value in any_values() if type(value) is not int or value not in range(4)]
        for letters in values + [4, 5, -2, 300, True, False, "1", (1,), [1], {1: 1}]:
            self.raises(Unfit(), come, book=SUMS, world=SLOW, works=(True, True), letters=letters)
            # It is asked ahead of whether there are too many.
            self.raises(Unfit(), come, book=((), (HASTY,) * 6), world=SLOW_ANEW, works=(True,) * 6, letters=letters)


class Earliest(CallCase):
    def looked_at(self, book, world, letters):
        """A shortest run, or None, or an error; told by how many deeds there are."""
        first = outcome(earliest, book, world, letters)
        if how_many_come(book, world, all_starts(len(book[1])), letters) > 300:
            self.assertEqual(first, "raises TooMany(300)")
            return "TooMany"
        least = least_early(book, world, letters)
        if least is None:
            self.assertEqual(first, "None")
            return None
        run = earliest(book, world, letters)
        self.assertEqual(first, repr(run))
        self.assertTrue(is_fixed(run))
        works, deeds = run
        self.assertEqual(len(works), len(book[1]))
        course, place = course_of(book, world, works, deeds)
        self.assertEqual((place, course.said, len(deeds)), (None, "early", least), (book, world, run))
        self.assertLessEqual(sum(deed[0] == "send" for deed in deeds), letters)
        if len(deeds) <= 2 * len(works) + 16:
            self.assertIsNone(losing_error(book, world, run))
        return len(deeds)

    def test_by_place_and_by_name(self):
        for book, world, _ in mixed_books(1958, 24, (2, 3)):
            for letters in range(3):
                first = self.outcome_of(earliest, {"book": book, "world": world, "letters": letters})
                self.assertEqual(first, outcome(earliest, book, world, letters))

    def test_two_machines(self):
        told = {}
        for book, world, _ in mixed_books(1963, 160, (2,)):
            for letters in range(4):
                kind = self.looked_at(book, world, letters)
                told[(world, kind if type(kind) is not int else "run")] = True
        for world in WORLDS:
            self.assertTrue(all((world, kind) in told for kind in ("run", None, "TooMany")), told)

    def test_more_machines(self):
        told = {}
        for book, world, _ in mixed_books(1964, 64, (3, 4, 5, 6)):
            for letters in range(4):
                told[self.looked_at(book, world, letters)] = True
        self.assertTrue({None, "TooMany"} <= set(told))

    def test_whoever_works_at_first(self):
        # A letter under way is enough: send, rest, visits; the shortest run has just one who works at first.
        for many in range(2, 4):
            book = book_for((("G1", "G2"), ("S1", "S2")), [CALM] * many)
            if how_many_come(book, SLOW, all_starts(many), 1) <= 300:
                self.assertEqual(self.looked_at(book, SLOW, 1), 2 + 2 * many)
                self.assertEqual(sum(earliest(book, SLOW, 1)[0]), 1)

    def test_at_the_bound(self):
        for many, least, book, world, letters in AT_THE_BOUND:
            self.assertEqual(how_many_come(book, world, all_starts(len(book[1])), letters), many)
            # Too many are told whether or not such a run comes among the first.
            self.assertEqual(least_early(book, world, letters), least)
            self.assertEqual(self.looked_at(book, world, letters), least if many <= 300 else "TooMany")

    def test_too_many_though_it_comes_among_the_first(self):
        self.assertEqual(self.looked_at(COUNTS, SLOW, 2), "TooMany")
        self.assertEqual(self.looked_at(COUNTS, SLOW, 1), 6)

    def test_no_number_of_letters(self):
        values = [value for value in any_values() if type(value) is not int or value not in range(4)]
        for letters in values + [4, 5, -2, 300, True, False, "1", (1,), [1], {1: 1}]:
            self.raises(Unfit(), earliest, book=SUMS, world=SLOW, letters=letters)
            self.raises(Unfit(), earliest, book=((), (HASTY,) * 6), world=SLOW_ANEW, letters=letters)


class Holds(unittest.TestCase):
    """[F3], wherever nothing is raised."""

    def test_too_many_of_earliest_as_of_come(self):
        for book, world, _ in mixed_books(1965, 160, (2, 3, 4, 5, 6)):
            for letters in range(4):
                told = outcome(earliest, book, world, letters)
                from_all = outcome(come, book, world, (True,) * len(book[1]), letters)
                self.assertEqual(told == "raises TooMany(300)", from_all == "raises TooMany(300)")

    def test_more_letters(self):
        for book, world, works in mixed_books(1966, 140, (2, 3)):
            numbers = [outcome(come, book, world, works, letters) for letters in range(4)]
            for fewer, more in zip(numbers, numbers[1:]):
                self.assertTrue("raises" in more or ("raises" not in fewer and int(fewer) <= int(more)), numbers)
            lengths = []
            for letters in range(4):
                if "raises" not in outcome(earliest, book, world, letters):
                    run = earliest(book, world, letters)
                    lengths.append(10 ** 9 if run is None else len(run[1]))
            self.assertEqual(lengths, sorted(lengths, reverse=True))

    def test_beside_losing(self):
        safe, shorter = 0, 0
        for book, world, _ in mixed_books(1967, 240, (2, 2, 3)):
            lost = losing(book, world)
            for letters in range(4):
                if "raises" in outcome(earliest, book, world, letters):
                    continue
                run = earliest(book, world, letters)
                if is_safe(book, world):
                    self.assertIsNone(run)
                    self.assertIsNone(lost)
                    safe += 1
                elif sum(deed[0] == "send" for deed in lost[1]) <= letters:
                    self.assertLessEqual(len(run[1]), len(lost[1]))
                    shorter += 1
        self.assertTrue(safe > 50 and shorter > 20, (safe, shorter))


if __name__ == "__main__":
    unittest.main()
