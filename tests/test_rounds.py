"""[C2], [C3], [C5]: stillness, the tests that hold, and the rounds of a run."""

import unittest
from itertools import product

from stillrounds.moving import led
from stillrounds.rounds import holding, is_still, rounds_of
from stillrounds.standings import start
from tests.bookkinds import TESTS, WORDS, WORLDS
from tests.helpers import CallCase, is_fixed
from tests.model import events_of, random_runs, rounds_behind, still_behind

SLOW, ONCE, SLOW_ANEW, ONCE_ANEW = ("slow", "alike"), ("at once", "alike"), ("slow", "anew"), ("at once", "anew")
QUIET, KEEN, HASTY = (True, ()), (True, WORDS), (False, ())


def book_for(manners, tests=()):
    return (tests, tuple(manners))


class IsStill(CallCase):
    def test_starts(self):
        for many in range(2, 7):
            for works in product((False, True), repeat=many):
                self.tells(not any(works), is_still, standing=start(works))

    def test_behind_runs(self):
        told = {}
        for book, world, works, deeds, standings in random_runs(1961, 240, 30):
            for at, standing in enumerate(standings):
                expected = still_behind(works, events_of(world, deeds[:at]), len(works))
                self.tells(expected, is_still, standing=standing)
                kind = (world, expected, any(site[0] for site in standing[0]), bool(standing[1]))
                told[kind] = told.get(kind, 0) + 1
        for world in WORLDS:
            # Nobody works and a letter is under way; somebody works, with letters and without; all is still.
            kinds = [(True, False, False), (False, True, False)]
            kinds += [(False, False, True), (False, True, True)] if world[0] == "slow" else []
            self.assertTrue(all(told.get((world,) + kind, 0) > 5 for kind in kinds), told)

    def test_a_letter_under_way_is_enough(self):
        for many in range(2, 7):
            book, works = book_for([QUIET] * many), (True,) + (False,) * (many - 1)
            for receiver in range(1, many):
                sent = led(book, SLOW, works, (("send", 0, receiver), ("rest", 0)))
                self.tells(False, is_still, standing=sent)
                got = led(book, SLOW, works, (("send", 0, receiver), ("rest", 0), ("get", 0, receiver)))
                self.tells(False, is_still, standing=got)
                rests = led(book, SLOW, works, (
                    ("send", 0, receiver), ("rest", 0), ("get", 0, receiver), ("rest", receiver)))
                self.tells(True, is_still, standing=rests)


def ways_to_be_alike(many):
    """All ways in which so many numbers can be alike: each number has the place of the first one that it is like."""
    found = [()]
    for at in range(many):
        found = [way + (first,) for way in found for first in sorted(set(way)) + [at]]
    return found


class Holding(CallCase):
    NUMBERS = (
        (0, 1, 2, 3), (3, 2, 1, 0), (-1, 0, 1, -2), (10 ** 300, 10 ** 300 + 1, 10 ** 300 - 1, 0),
        (-(10 ** 350), 10 ** 350, -(10 ** 350) - 1, 1), (1, -1, 10, -10), (7, 7 + 2 ** 64, 7 - 2 ** 64, 7 + 2 ** 32),
    )

    def test_all_fifteen_ways(self):
        ways = ways_to_be_alike(4)
        self.assertEqual(len(ways), 15)
        for way in ways:
            place = {"S1": way[0], "G1": way[1], "S2": way[2], "G2": way[3]}
            expected = tuple(test for test in TESTS if place[test[0]] == place[test[1]])
            for numbers in self.NUMBERS:
                sums = [numbers[at] for at in way]
                self.tells(expected, holding, ahead=(sums[0], sums[1]), now=(sums[2], sums[3]))

    def test_ascending(self):
        told = holding((5, 5), (5, 5))
        self.assertEqual(told, tuple(sorted(told)))
        self.assertEqual(told, TESTS)


class RoundsOf(CallCase):
    def behind(self, book, world, works, deeds):
        expected = rounds_behind(book, world, works, deeds)
        self.tells(expected, rounds_of, book=book, world=world, works=works, deeds=deeds)
        return expected

    def test_many_runs_cut_anywhere(self):
        ended, words = 0, {}
        for book, world, works, deeds, standings in random_runs(1976, 480, 60):
            for at in range(len(deeds) + 1):
                told = rounds_of(book, world, works, deeds[:at])
                # Behind all deeds the model is asked; shorter runs have the first rounds of these.
                self.assertEqual(repr(told), repr(rounds_of(book, world, works, deeds)[:len(told)]))
                visits = sum(deed[0] == "visit" for deed in deeds[:at])
                self.assertEqual(len(told), visits // len(works))
                if told:
                    self.assertEqual(told[-1][4], standings[at][4])
                    self.assertTrue(all(each[4] == "no" for each in told[:-1]))
                else:
                    self.assertEqual(standings[at][4], "no")
            told = self.behind(book, world, works, deeds)
            ended += len(told)
            for each in told:
                words[(world, each[3], each[4])] = True
        self.assertGreater(ended, 400)
        for world in WORLDS:
            kinds = ((False, "right"), (False, "no"), (True, "no"))
            kinds += ((False, "early"),) if world[0] == "slow" else ()
            self.assertTrue(all((world,) + kind in words for kind in kinds), (world, words))

    def test_early_where_letters_take_no_time(self):
        deeds = (("visit", 0), ("visit", 1), ("visit", 0), ("send", 1, 0), ("rest", 1), ("visit", 1))
        for world in (ONCE, ONCE_ANEW):
            told = self.behind(book_for([QUIET, HASTY]), world, (False, True), deeds)
            self.assertEqual(told, (((0, 1), 0, 0, True, "no"), ((0, 1), 1, 0, False, "early")))
            told = self.behind(book_for([QUIET, (False, ("sent lower",))]), world, (False, True), deeds)
            self.assertEqual(told, (((0, 1), 0, 0, True, "no"), ((0, 1), 1, 0, True, "no")))

    def test_no_deeds(self):
        for many in range(2, 7):
            for world in WORLDS:
                self.tells((), rounds_of, book=book_for([KEEN] * many), world=world, works=(True,) * many, deeds=())

    def test_a_round_is_told_when_it_ends(self):
        for many in range(2, 7):
            book, visits = book_for([QUIET] * many), tuple(("visit", i) for i in range(many))
            order = tuple(range(many))
            for at in range(2 * many + 1):
                expected = ((order, 0, 0, False, "no"), (order, 0, 0, False, "right"))[:at // many]
                told = rounds_of(book, SLOW, (False,) * many, (visits + visits)[:at])
                self.assertEqual(told, expected)
                self.assertTrue(is_fixed(told))

    def test_the_order_of_tours_anew(self):
        book = book_for([QUIET, HASTY, QUIET], (("G1", "S1"),))
        deeds = (("visit", 2), ("visit", 0), ("send", 1, 0), ("visit", 1), ("visit", 1), ("rest", 1), ("visit", 2))
        told = self.behind(book, SLOW_ANEW, (False, True, False), deeds + (("visit", 0),))
        self.assertEqual(told, (((2, 0, 1), 1, 0, True, "no"), ((1, 2, 0), 1, 0, True, "no")))

    def test_spoilt_by_words_that_are_noted(self):
        deeds = (("send", 0, 1), ("rest", 0), ("rest", 1), ("visit", 0), ("visit", 1), ("visit", 0), ("visit", 1))
        for notes, spoilt in (((), False), (("sent higher",), True), (("got lower",), False), (WORDS, True)):
            told = self.behind(book_for([(True, notes), QUIET], (("G1", "S1"),)), ONCE, (True, False), deeds)
            self.assertEqual(told[0], ((0, 1), 1, 1, spoilt, "no"))
            self.assertEqual(told[1], ((0, 1), 1, 1, False, "right"))

    def test_four_hundred_deeds(self):
        book = book_for([HASTY, HASTY], (("G1", "S2"),))
        deeds = (("send", 0, 1), ("visit", 0), ("visit", 1), ("send", 0, 1)) * 100
        told = rounds_of(book, SLOW, (True, False), deeds)
        self.assertEqual(told, tuple(((0, 1), 2 * at + 1, 0, True, "no") for at in range(100)))

    def test_rounds_behind_what_is_said(self):
        # Machines go on once it is said; no round is told any more.
        book = book_for([QUIET, QUIET])
        early = (("send", 0, 1), ("rest", 0), ("visit", 0), ("visit", 1), ("visit", 0), ("visit", 1))
        more = (("get", 0, 1), ("send", 1, 0), ("rest", 1), ("get", 1, 0), ("rest", 0))
        for at in range(len(more) + 1):
            told = self.behind(book, SLOW, (True, False), early + more[:at])
            self.assertEqual(told, (((0, 1), 1, 0, False, "no"), ((0, 1), 1, 0, False, "early")))


if __name__ == "__main__":
    unittest.main()
