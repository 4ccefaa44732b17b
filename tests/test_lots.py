"""[C4], [C5]: which tests hold together of two neighbouring rounds."""

import random
import unittest

from stillrounds.lots import least_lot, lots
from stillrounds.moving import after, open_deeds
from stillrounds.rounds import holding, rounds_of
from stillrounds.standings import start
from tests.bookkinds import LOTS, TESTS, WORDS, WORLDS
from tests.helpers import CallCase
from tests.model import random_run

SLOW = ("slow", "alike")
NINE = (
    (),
    TESTS,
    (("G1", "G2"), ("S1", "S2")),
    (("G1", "S1"),),
    (("G1", "S1"), ("G2", "S2")),
    (("G2", "S1"),),
    (("G2", "S1"), ("G2", "S2"), ("S1", "S2")),
    (("G2", "S2"),),
    (("S1", "S2"),),
)
QUIET = (True, ())


def doubles(many, letters):
    """The pairs of sums of the first two rounds, in all runs with at most so many letters of machines that wait."""
    book, found = ((), (QUIET,) * many), {}
    layer = {start((True,) * many): True}
    while layer:
        behind = {}
        for standing in layer:
            if standing[4] != "no":
                found[(standing[3], standing[2][1:3])] = True
                continue
            sent = sum(site[1] for site in standing[0])
            for deed in open_deeds(book, SLOW, standing):
                if deed[0] != "send" or sent < letters:
                    behind[after(book, SLOW, standing, deed)] = True
        layer = behind
    return list(found)


class Lots(CallCase):
    def test_the_nine(self):
        self.tells(NINE, lots)
        self.assertEqual(tuple(sorted(lots())), lots())

    def test_all_come_with_two_machines_and_no_others(self):
        self.assertEqual({holding(*sums) for sums in doubles(2, 3)}, set(NINE))

    def test_no_others_with_more(self):
        for many, letters in ((2, 4), (3, 2), (4, 1)):
            self.assertTrue({holding(*sums) for sums in doubles(many, letters)} <= set(NINE))

    def test_what_two_lots_have_in_common_is_one(self):
        for one in lots():
            for other in lots():
                self.assertIn(tuple(test for test in one if test in other), NINE)


class LeastLot(CallCase):
    def test_all_tuples_of_tests(self):
        self.assertEqual(len(LOTS), 64)
        for tests in LOTS:
            having = [lot for lot in NINE if set(tests) <= set(lot)]
            fewest = min(len(lot) for lot in having)
            least = [lot for lot in having if len(lot) == fewest]
            self.assertEqual(len(least), 1, "there is a least one")
            self.tells(least[0], least_lot, tests=tests)
            self.assertTrue(all(set(least[0]) <= set(lot) for lot in having))


class NeighbouringRounds(unittest.TestCase):
    """Long runs of books that wait, with rounds of which many do not say."""

    def pairs(self, seed, how_many, worlds):
        draw = random.Random(seed)
        for at in range(how_many):
            world, many = worlds[at % len(worlds)], 2 + at // 4 % 5
            manners = tuple((True, WORDS if draw.random() < 0.5 else ()) for _ in range(many))
            book = (draw.choice(((), (("G1", "S2"),), (("G2", "S2"),), TESTS)), manners)
            works, deeds, _ = random_run(draw, book, world, 70)
            rounds = rounds_of(book, world, works, deeds)
            for ahead, now in zip(rounds, rounds[1:]):
                yield holding(ahead[1:3], now[1:3])

    def test_slow_roads_and_tours_alike(self):
        told = list(self.pairs(1968, 240, [SLOW]))
        self.assertGreater(len(told), 300)
        self.assertTrue(set(told) <= set(NINE))
        self.assertGreaterEqual(len(set(told)), 5)

    def test_the_four_counts(self):
        told = list(self.pairs(1969, 400, WORLDS))
        with_counts = [lot for lot in told if ("G1", "S2") in lot]
        self.assertTrue(with_counts and all(lot == TESTS for lot in with_counts))
        self.assertLess(len(with_counts), len(told))

    def test_the_four_counts_where_somebody_does_not_wait(self):
        book = ((), ((False, ()), QUIET))
        deeds = (("visit", 0), ("send", 0, 1), ("get", 0, 1), ("rest", 0), ("rest", 1), ("visit", 1), ("visit", 0),
                 ("visit", 1))
        ahead, now = rounds_of(book, SLOW, (True, False), deeds)
        self.assertEqual((ahead[1:3], now[1:3]), ((0, 1), (1, 1)))
        self.assertEqual(holding(ahead[1:3], now[1:3]), (("G1", "G2"), ("G1", "S2"), ("G2", "S2")))


if __name__ == "__main__":
    unittest.main()
