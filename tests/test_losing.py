"""[E1], [E2], [E4]: runs that mislead all books that are not safe."""

import random
import unittest

from stillrounds.losejudge import losing_error
from stillrounds.losing import losing
from stillrounds.safety import is_safe
from tests.bookkinds import LOTS, MANNERS, WORDS, WORLDS
from tests.courses import course_of, losing_error_told
from tests.helpers import CallCase, is_fixed
from tests.model import error_of, standing_behind
from tests.rowtables import ROWS, falls_told, looser, stricter, tight_books


class LosingCase(CallCase):
    def loses(self, book, world):
        """A run is told, and it misleads the book."""
        run = losing(book, world)
        self.assertTrue(is_fixed(run), (book, world))
        self.assertIs(type(run), tuple, (book, world))
        works, deeds = run
        many = len(book[1])
        self.assertEqual([type(each) for each in works], [bool] * many)
        course, place = course_of(book, world, works, deeds)
        self.assertIsNone(place, (book, world, run))
        self.assertEqual(course.said, "early", (book, world, run))
        self.assertLessEqual(len(deeds), 2 * many + 16)
        self.assertIsNone(losing_error(book, world, run))
        return run

    def never_loses(self, book, world):
        self.assertIsNone(losing(book, world), (book, world))


class EachRow(LosingCase):
    def test_each_row_at_each_place(self):
        # What is not at a machine of an entry notes everything and waits, and all equalities are tested.
        for world in WORLDS:
            seen = {}
            for many in range(2, 7):
                for number, machines, book in tight_books(world, many):
                    self.loses(book, world)
                    seen[number] = True
            self.assertEqual(sorted(seen), list(range(len(ROWS[world]))))

    def test_deed_by_deed(self):
        # By the model that works each standing out anew from all that has happened.
        for world in WORLDS:
            for many in range(2, 7):
                for _, _, book in tight_books(world, many)[::3 ** (many - 2)]:
                    works, deeds = self.loses(book, world)
                    for at, deed in enumerate(deeds):
                        standing = standing_behind(book, world, works, deeds[:at])
                        self.assertIsNone(error_of(book, world, standing, deed))
                    self.assertEqual(standing_behind(book, world, works, deeds)[4], "early")

    def test_books_that_ask_less(self):
        for world in WORLDS:
            for many in range(2, 6):
                for _, _, book in tight_books(world, many)[::1 + (many - 2) ** 2]:
                    for _, less in looser(book):
                        self.loses(less, world)

    def test_books_that_ask_more(self):
        for world in WORLDS:
            lost, safe = 0, 0
            for many in range(2, 5):
                for _, _, book in tight_books(world, many)[::1 + (many - 2) ** 2]:
                    for more in stricter(book):
                        if falls_told(more, world):
                            self.loses(more, world)
                            lost += 1
                        else:
                            self.never_loses(more, world)
                            safe += 1
            self.assertTrue(lost > 0 and safe > 50, (lost, safe))


class MixedBooks(LosingCase):
    def books(self, seed, how_many):
        draw = random.Random(seed)
        for at in range(how_many):
            likely = draw.choice((0.1, 0.4, 0.7))
            manners = tuple(
                (draw.random() < 0.7, tuple(word for word in WORDS if draw.random() < likely))
                for _ in range(2 + at // 4 % 5)
            )
            yield WORLDS[at % 4], (draw.choice(LOTS[:22] if at % 3 else LOTS), manners)

    def test_none_exactly_where_the_book_is_safe(self):
        lost, safe = 0, 0
        for world, book in self.books(1977, 4000):
            if is_safe(book, world):
                self.never_loses(book, world)
                safe += 1
            else:
                self.loses(book, world)
                lost += 1
            self.assertIs(is_safe(book, world), falls_told(book, world) == ())
        self.assertTrue(lost > 1000 and safe > 1000, (lost, safe))

    def test_all_manners_alike(self):
        for world in WORLDS:
            for tests in LOTS[::3]:
                for manner in MANNERS:
                    for many in (2, 3, 6):
                        book = (tests, (manner,) * many)
                        if falls_told(book, world):
                            self.loses(book, world)
                        else:
                            self.never_loses(book, world)

    def test_by_place_and_by_name(self):
        for world, book in self.books(1978, 200):
            first = self.outcome_of(losing, {"book": book, "world": world})
            self.assertEqual(first, repr(losing(book, world)))

    def test_further_machines(self):
        # A book that is not safe stays so if machines are put behind the last one.
        draw = random.Random(1979)
        for world, book in self.books(1980, 400):
            while not is_safe(book, world) and len(book[1]) < 6:
                book = (book[0], book[1] + (draw.choice(MANNERS),))
                self.loses(book, world)

    def test_safe_books_find_something_wrong_with_every_run(self):
        runs = [losing(book, world) for world in WORLDS for many in (2, 3) for _, _, book in tight_books(world, many)]
        for world, book in self.books(1981, 300):
            if is_safe(book, world):
                for run in runs[::7]:
                    self.assertIsNotNone(losing_error(book, world, run))
                    self.assertEqual(losing_error(book, world, run), losing_error_told(book, world, run))


if __name__ == "__main__":
    unittest.main()
