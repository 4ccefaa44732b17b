"""[D4]: what can be left out of a safe book, and how few words have to be noted."""

import random
import unittest
from itertools import product

from stillrounds.errors import Unfit
from stillrounds.leasts import fewest_notes, needless
from tests.bookkinds import LOTS, MANNERS, WORDS, WORLDS, choices
from tests.helpers import CallCase, any_values
from tests.rowtables import ONCE_ANEW, ROWS, SLOW, falls_told, looser, placings, tight_books


def safe_books(seed, how_many):
    """Safe books of two to six machines, of which some could ask less and some could not."""
    draw, found = random.Random(seed), 0
    while found < how_many:
        many, world = 2 + found % 5, WORLDS[found // 5 % 4]
        likely = draw.choice((0.3, 0.6, 0.9))
        book = (draw.choice(LOTS[:22] if draw.random() < 0.6 else LOTS), tuple(
            (draw.random() < 0.7, tuple(word for word in WORDS if draw.random() < likely)) for _ in range(many)
        ))
        if falls_told(book, world) == ():
            found += 1
            yield world, book


def made_least(book, world):
    """A safe book, of which nothing can be left out any more."""
    while True:
        less = [other for _, other in looser(book) if falls_told(other, world) == ()]
        if not less:
            return book
        book = less[0]


def needless_told(book, world):
    return tuple(sorted(name for name, less in looser(book) if falls_told(less, world) == ()))


class Needless(CallCase):
    def test_safe_books(self):
        kinds = {}
        for world, book in safe_books(1990, 800):
            expected = needless_told(book, world)
            self.assertEqual(repr(needless(book, world)), repr(expected), (book, world))
            self.assertEqual(list(expected), sorted(expected))
            kinds.update({(world, name[0]): True for name in expected})
            needed = {name[0] for name, _ in looser(book) if name not in expected}
            kinds.update({(world, "not " + word): True for word in needed})
        for world in WORLDS:
            for word in ("note", "not note", "test", "not test", "waits", "not waits"):
                self.assertIn((world, word), kinds)

    def test_by_place_and_by_name(self):
        for world, book in safe_books(1991, 200):
            self.tells(needless_told(book, world), needless, book=book, world=world)

    def test_books_of_which_nothing_can_be_left_out(self):
        for world, book in safe_books(1992, 120):
            self.tells((), needless, book=made_least(book, world), world=world)

    def test_books_that_are_not_safe(self):
        for world in WORLDS:
            for many in range(2, 7):
                for _, _, book in tight_books(world, many)[::1 + 4 * (many > 3)]:
                    self.raises(Unfit(), needless, book=book, world=world)

    def test_each_by_itself(self):
        # Either of both tests can go, but not both.
        book = ((("G1", "S2"), ("S1", "S2")), ((False, ()), (False, ())))
        for world in (("at once", "alike"), ONCE_ANEW):
            self.tells((("test", ("G1", "S2")), ("test", ("S1", "S2"))), needless, book=book, world=world)
        self.tells((("test", ("S1", "S2")),), needless, book=book, world=SLOW)

    def test_the_order(self):
        manners = ((True, ("got higher", "sent lower")), (False, ("got lower",)), (True, ()))
        book = ((("G1", "G2"), ("G1", "S2")), manners)
        self.tells((
            ("note", 0, "got higher"), ("note", 0, "sent lower"), ("note", 1, "got lower"), ("test", ("G1", "G2")),
            ("waits", 0), ("waits", 2)), needless, book=book, world=SLOW)


def fewest_told(tests, many, world):
    """The least number of words, found by asking, of each way to fall to a row, for one of its words after another."""
    rows = [row for row in ROWS[world] if set(tests) <= set(row[0])]
    if any(placings(((True, WORDS),) * many, row) for row in rows):
        return None
    for most in range(4 * many + 1):
        if can_be_safe(rows, ((),) * many, most):
            return most
    return None


def can_be_safe(rows, noted, most):
    """Whether most further words, beside those noted, are enough for waiting machines to fall to none of rows."""
    manners = tuple((True, words) for words in noted)
    fallen = next(((row, found[0]) for row in rows for found in [placings(manners, row)] if found), None)
    if fallen is None:
        return True
    if most == 0:
        return False
    row, machines = fallen
    for (_, words), machine in zip(row[1], machines):
        for word in words:
            more = tuple(sorted(noted[machine] + (word,)))
            if can_be_safe(rows, noted[:machine] + (more,) + noted[machine + 1:], most - 1):
                return True
    return False


class FewestNotes(CallCase):
    def look_at(self, told, expected, tests, many, world):
        if expected is None:
            self.assertIsNone(told, (tests, many, world))
            return
        self.assertIs(type(told), tuple)
        number, book = told
        self.assertIs(type(number), int)
        self.assertEqual(number, expected, (tests, many, world))
        self.assertEqual((book[0], len(book[1])), (tests, many))
        for waits, notes in book[1]:
            self.assertIs(waits, True)
            self.assertIn((waits, notes), MANNERS)
        self.assertEqual(sum(len(notes) for _, notes in book[1]), number)
        self.assertEqual(falls_told(book, world), (), (book, world))

    def test_all(self):
        known, numbers = {}, {}
        for world, tests, many in product(WORLDS, LOTS, range(2, 7)):
            asked = tuple(number for number, row in enumerate(ROWS[world]) if set(tests) <= set(row[0]))
            key = (world, asked, many)
            if key not in known:
                known[key] = fewest_told(tests, many, world)
            self.look_at(fewest_notes(tests, many, world), known[key], tests, many, world)
            numbers[(world, known[key])] = True
        self.assertTrue(all((world, 0) in numbers for world in WORLDS))
        self.assertTrue(all((world, None) in numbers for world in WORLDS if world[0] == "slow"))
        self.assertTrue(all((world, None) not in numbers for world in WORLDS if world[0] == "at once"))
        self.assertGreater(len(numbers), 20)

    def test_all_small_books(self):
        # Of two machines all that they can note is gone through; of three a part, where none may be better.
        notes = choices(WORDS)
        for world in WORLDS:
            for tests in ((), (("G1", "S1"),), (("G2", "S1"),), (("G2", "S2"),), (("G1", "S1"), ("G2", "S2"))):
                for many in (2, 3):
                    kinds = [notes if many == 2 or i == 1 else notes[:8] for i in range(many)]
                    books = [(tests, tuple((True, words) for words in each)) for each in product(*kinds)]
                    safe = [book for book in books if falls_told(book, world) == ()]
                    fewest = min((sum(len(words) for _, words in book[1]) for book in safe), default=None)
                    if many == 2:
                        self.look_at(fewest_notes(tests, many, world), fewest, tests, many, world)
                    else:
                        told = fewest_notes(tests, many, world)
                        self.assertTrue(fewest is None or told[0] <= fewest, (tests, world))

    def test_the_sum_alone(self):
        for many in range(2, 7):
            told = fewest_notes((("G2", "S2"),), many, SLOW)
            self.assertEqual(told, (many - 1, ((("G2", "S2"),), ((True, ()),) + ((True, ("got lower",)),) * (many - 1))))

    def test_by_place_and_by_name(self):
        for world, tests, many in product(WORLDS, LOTS[::5], (2, 4, 6)):
            first = self.outcome_of(fewest_notes, {"tests": tests, "many": many, "world": world})
            self.assertEqual(first, repr(fewest_notes(tests, many, world)))

    def test_no_number_of_machines(self):
        values = [value for value in any_values() if type(value) is not int or value not in range(2, 7)]
        for many in values + [7, 8, -2, True, False, None, "2", (2,), [2], {2: 2}, (2, 3)]:
            for world in WORLDS:
                for tests in ((), (("G1", "S2"),)):
                    self.raises(Unfit(), fewest_notes, tests=tests, many=many, world=world)


if __name__ == "__main__":
    unittest.main()
