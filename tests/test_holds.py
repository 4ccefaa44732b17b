"""[B7]: what holds for all books, worlds and standings that come."""

import random
import unittest

from stillrounds.moving import after, open_deeds
from stillrounds.standings import standing_error, start
from tests.bookkinds import LOTS, WORDS, WORLDS
from tests.model import random_book


def sums_told(standing):
    """What the last round that has ended told."""
    return standing[3] if standing[4] == "no" else standing[2][1:3]


def is_still(standing):
    return not standing[1] and not any(site[0] for site in standing[0])


class Holds(unittest.TestCase):
    """Long runs, deed by deed, far beyond what one call of led takes."""

    def long_run(self, draw, book, world):
        standing = start(tuple(draw.random() < 0.5 for _ in book[1]))
        yield None, None, standing
        for _ in range(500):
            deeds = open_deeds(book, world, standing)
            if not deeds:
                break
            calm = [deed for deed in deeds if deed[0] in ("visit", "rest")]
            deed = draw.choice(calm if calm and draw.random() < 0.4 else deeds)
            ahead, standing = standing, after(book, world, standing, deed)
            yield ahead, deed, standing

    def look_at(self, book, world, ahead, deed, now):
        sites, letters, tour, before, said = now
        self.assertIsNone(standing_error(len(book[1]), now))
        sent, got = sum(site[1] for site in sites), sum(site[2] for site in sites)
        self.assertEqual(sent - got, sum(many for *_, many in letters))
        if world[0] == "at once":
            self.assertEqual((sent, letters), (got, ()))
        if said == "right":
            self.assertTrue(is_still(now))
        if said != "no":
            self.assertEqual(len(tour[0]), len(sites))
            self.assertTrue(all(each[0] != "visit" for each in open_deeds(book, world, now)))
        if is_still(now):
            self.assertTrue(all(each[0] == "visit" for each in open_deeds(book, world, now)))
        if ahead is None:
            return
        if before is not None and said != "no":
            self.assertTrue(before[0] <= tour[1] and before[1] <= tour[2])
        for old, new in zip(ahead[0], sites):
            self.assertTrue(old[1] <= new[1] and old[2] <= new[2])
        if ahead[3] is not None:
            self.assertTrue(all(old <= new for old, new in zip(sums_told(ahead), sums_told(now))))
        if is_still(ahead):
            self.assertTrue(is_still(now))
            self.assertEqual(deed[0], "visit")
        if ahead[4] != "no":
            self.assertEqual((ahead[2], ahead[3], ahead[4]), (tour, before, said))

    def test_long_runs(self):
        draw, said, rounds = random.Random(1980), {}, 0
        for at in range(160):
            world = WORLDS[at % 4]
            many = 2 + at // 4 % 5
            book = random_book(draw, many) if at < 80 else (draw.choice(LOTS), ((at % 3 == 0, WORDS),) * many)
            for ahead, deed, now in self.long_run(draw, book, world):
                self.look_at(book, world, ahead, deed, now)
                rounds += ahead is not None and len(now[2][0]) < len(ahead[2][0])
            said[now[4]] = said.get(now[4], 0) + 1
        self.assertTrue({"right", "early"} <= set(said))
        self.assertGreater(rounds, 500, "the runs have many rounds at which nothing is said")


if __name__ == "__main__":
    unittest.main()
