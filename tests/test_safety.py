"""[D1], [D3], [D5], [A8]: which books are safe."""

import random
import unittest
from itertools import product

from stillrounds.knownbooks import known_book, known_names, known_worlds
from stillrounds.moving import after, open_deeds
from stillrounds.safety import falls, is_safe, safe_from
from stillrounds.standings import start
from tests.bookkinds import LOTS, MANNERS, TESTS, WORDS, WORLDS
from tests.helpers import CallCase
from tests.profiles import asks_all_of, misled
from tests.rowtables import (
    ONCE, ROWS, SLOW, falls_told, looser, placings, stricter, tight_books, with_manner,
)


def mixed_books(seed, how_many):
    """Books of two to six machines; some note much, some little, some test what a row has."""
    draw = random.Random(seed)
    for at in range(how_many):
        many = 2 + at % 5
        world = WORLDS[at // 5 % 4]
        equalities = draw.choice(ROWS[world])[0]
        tests = draw.choice(LOTS) if at % 3 == 0 else tuple(t for t in equalities if draw.random() < 0.7)
        likely = draw.choice((0.2, 0.5, 0.8))
        manners = tuple(
            (draw.random() < 0.7, tuple(word for word in WORDS if draw.random() < likely)) for _ in range(many)
        )
        yield world, (tests, manners)


class Falls(CallCase):
    def told(self, book, world):
        expected = falls_told(book, world)
        self.assertEqual(falls(book, world), expected, (book, world))
        self.assertIs(is_safe(book, world), expected == ())
        return expected

    def test_mixed_books(self):
        seen = {world: set() for world in WORLDS}
        safe = 0
        for world, book in mixed_books(1980, 6000):
            told = self.told(book, world)
            seen[world].update(told)
            safe += told == ()
        for world in WORLDS:
            self.assertEqual(len(seen[world]), len(ROWS[world]), "each row was fallen to")
        self.assertTrue(1000 < safe < 5000, safe)

    def test_by_place_and_by_name(self):
        for world, book in mixed_books(1981, 300):
            expected = falls_told(book, world)
            self.tells(expected, falls, book=book, world=world)
            self.tells(expected == (), is_safe, book=book, world=world)

    def test_books_that_just_fall_to_a_row(self):
        # One thing more that they ask, at a machine of an entry, and they do not fall to it so.
        for world in WORLDS:
            for many in range(2, 6):
                for number, _, book in tight_books(world, many):
                    self.assertIn(number, self.told(book, world))
                    for other in stricter(book):
                        self.told(other, world)

    def test_small_books(self):
        for world in WORLDS:
            for tests in LOTS[::3]:
                for pair in product(MANNERS[::2], MANNERS[1::3]):
                    self.told((tests, pair), world)

    def test_the_ends(self):
        # "lower" cannot happen to the machine 0, "higher" not to the last one.
        all_noting = ((("G2", "S2"),), ((True, ()),) + ((True, ("got lower",)),) * 2)
        self.assertEqual(falls(all_noting, SLOW), ())
        self.assertEqual(falls(with_manner(all_noting, 1, (True, ())), SLOW), (1, 5, 6))
        self.assertEqual(falls(with_manner(all_noting, 2, (True, ())), SLOW), (1, 5))
        for machine in range(3):
            manners = tuple((i != machine, WORDS) for i in range(3))
            awake = ((("G1", "G2"),), tuple((False, ()) if i == machine else manners[i] for i in range(3)))
            expected = {0: (0, 8), 1: (0, 7, 8), 2: (0, 7)}[machine]
            self.assertEqual(falls(awake, SLOW), expected)

    def test_below(self):
        up, down, none = (True, ("got lower", "sent lower")), (True, ("got higher", "sent higher")), (True, WORDS)
        for first, second in product(range(4), repeat=2):
            if first != second:
                manners = tuple(up if i == first else down if i == second else none for i in range(4))
                expected = (4,) if first < second else ()
                self.assertEqual(falls(((("G1", "S1"), ("G2", "S2")), manners), ONCE), expected)

    def test_third(self):
        # 0 is awake and sends to a higher one; who gets from a lower one is another one than is sent to.
        awake, getter, none = (False, ("got higher", "got lower", "sent lower")), (True, WORDS[:1] + WORDS[2:]), (True, WORDS)
        tests, world = (("G1", "S1"), ("G2", "S2")), ("at once", "anew")
        self.assertEqual(falls((tests, (awake, getter)), world), ())
        self.assertEqual(falls((tests, (awake, getter, none)), world), (11,))
        self.assertEqual(falls((tests, (awake, none, getter)), world), (11,))
        self.assertEqual(falls((tests, (none, awake, getter)), world), ())


class SafeFrom(CallCase):
    def setUp(self):
        self.stands = {
            (world, manner, many): [bool(placings((manner,) * many, row)) for row in ROWS[world]]
            for world in WORLDS for manner in MANNERS for many in range(2, 9)
        }

    def least(self, tests, manner, world, most):
        for many in range(2, most + 1):
            stands = self.stands[(world, manner, many)]
            if any(stands[at] and set(tests) <= set(row[0]) for at, row in enumerate(ROWS[world])):
                return many
        return None

    def test_all(self):
        told = {}
        for world, tests, manner in product(WORLDS, LOTS, MANNERS):
            expected = self.least(tests, manner, world, 8)
            self.assertIn(expected, (2, 3, None))
            self.assertEqual(repr(safe_from(tests, manner, world)), repr(expected))
            told[(world, expected)] = True
        self.assertEqual(len(told), 12)

    def test_by_place_and_by_name(self):
        for world, tests, manner in product(WORLDS, LOTS[::9], MANNERS[::5]):
            self.tells(self.least(tests, manner, world, 8), safe_from, tests=tests, manner=manner, world=world)


class NeverTooEarly(unittest.TestCase):
    """[D5], over all that can happen in two rounds with few letters."""

    def test_no_book_that_is_too_early_is_safe(self):
        for world in WORLDS:
            for many, letters in ((2, 4), (3, 2)):
                books = misled(world, many, letters)
                self.assertTrue(books)
                for book in books:
                    self.assertFalse(is_safe(book, world), (book, world))

    def test_small_books_are_safe_just_if_they_are_never_too_early(self):
        # Five letters are enough for all rows of two machines.
        for world in WORLDS:
            books = misled(world, 2, 5)
            for tests in LOTS[::2]:
                for pair in product(MANNERS[::3], MANNERS[::5]):
                    early = any(asks_all_of(book, (tests, pair)) for book in books)
                    self.assertIs(is_safe((tests, pair), world), not early, (tests, pair, world))
            for _, _, book in tight_books(world, 2):
                self.assertTrue(any(asks_all_of(other, book) for other in books), (book, world))

    def come(self, book, world, letters):
        """What is said in the standings that come with at most so many letters."""
        first = start((True,) * len(book[1]))
        seen, todo = {first: True}, [first]
        while todo:
            standing = todo.pop()
            sent = sum(site[1] for site in standing[0])
            for deed in open_deeds(book, world, standing):
                if deed[0] != "send" or sent < letters:
                    behind = after(book, world, standing, deed)
                    if behind not in seen:
                        seen[behind] = True
                        todo.append(behind)
        return {standing[4] for standing in seen}

    def test_standings_that_come(self):
        draw, early, safe = random.Random(2024), 0, 0
        for at in range(120):
            world = WORLDS[at % 4]
            tests = draw.choice(((), TESTS[1:2], TESTS[3:4], TESTS[4:5], (TESTS[1], TESTS[4]), draw.choice(LOTS)))
            book = (tests, tuple(draw.choice(MANNERS[:6] + MANNERS[16:22]) for _ in range(2)))
            said = self.come(book, world, 2)
            if "early" in said:
                early += 1
                self.assertFalse(is_safe(book, world), (book, world))
            if is_safe(book, world):
                safe += 1
                self.assertNotIn("early", said, (book, world))
        self.assertTrue(early > 15 and safe > 15, (early, safe))


class Holds(unittest.TestCase):
    """The other sentences of [D5]."""

    def test_what_is_safe_stays_so_with_more(self):
        kinds = {}
        for world, book in mixed_books(1982, 1500):
            if is_safe(book, world):
                for other in stricter(book):
                    self.assertTrue(is_safe(other, world), (book, other, world))
                    kinds[len(other[0]) - len(book[0])] = True
            else:
                for _, other in looser(book):
                    self.assertFalse(is_safe(other, world), (book, other, world))
        self.assertEqual(set(kinds), {0, 1})

    def test_harder_worlds(self):
        for _, book in mixed_books(1983, 4000):
            for roads in ("slow", "at once"):
                self.assertTrue(is_safe(book, (roads, "alike")) or not is_safe(book, (roads, "anew")), book)
            for tours in ("alike", "anew"):
                self.assertTrue(is_safe(book, ("at once", tours)) or not is_safe(book, ("slow", tours)), book)

    def test_tests_that_are_enough(self):
        draw = random.Random(1985)
        for tests in LOTS:
            for many in range(2, 7):
                book = (tests, tuple((draw.random() < 0.5, draw.choice(((), WORDS[:1]))) for _ in range(many)))
                for world in WORLDS:
                    if ("G1", "S2") in tests or (world[0] == "at once" and ("S1", "S2") in tests):
                        self.assertTrue(is_safe(book, world))

    def test_the_sum_alone(self):
        draw = random.Random(1986)
        for many in range(2, 7):
            for lot in product((False, True), repeat=many):
                manners = []
                for noting in lot:
                    others = tuple(word for word in WORDS if word != "got lower" and draw.random() < 0.5)
                    manners.append((draw.random() < 0.5, tuple(sorted(others + (("got lower",) if noting else ())))))
                book = ((("G2", "S2"),), tuple(manners))
                self.assertIs(is_safe(book, SLOW), all(lot[1:]), book)


class KnownWorlds(unittest.TestCase):
    def test_the_worlds_of_known_books(self):
        for name in known_names():
            for many in range(2, 7):
                worlds = tuple(world for world in WORLDS if is_safe(known_book(name, many), world))
                self.assertEqual(worlds, known_worlds(name), (name, many))


if __name__ == "__main__":
    unittest.main()
