"""[A2], [M1], and what holds over the whole program: one book told through all parts tells the same."""

import random
import unittest

from stillrounds.books import book_error, world_error
from stillrounds.booktexts import book_text, read_book, read_world, world_text
from stillrounds.epochruns import list_of, run_of
from stillrounds.epochs import comes
from stillrounds.errors import TooMany
from stillrounds.keepers import Keeper
from stillrounds.logtexts import keeper_behind, log_text, read_log
from stillrounds.losejudge import losing_error
from stillrounds.losing import losing
from stillrounds.moving import led, open_deeds
from stillrounds.rounds import is_still, rounds_of
from stillrounds.runtexts import read_run, run_text
from stillrounds.safety import falls, is_safe
from stillrounds.shells import Shell
from stillrounds.soon import longest, longest_error, most_visits, visits_left
from stillrounds.standings import standing_error
from stillrounds.wandering import earliest
from stillrounds.whenever import parting, says_whenever
from tests.bookkinds import WORLDS
from tests.eventtables import pairs_of_books
from tests.lists import lively_list, plain_book
from tests.model import random_book, random_run

SLOW = ("slow", "alike")


def machine_line(site):
    works, sent, got, noted = site
    told = f"{'works' if works else 'rests'} {sent} {got}"
    return told + (": " + ", ".join(noted) if noted else "")


class WholeCase(unittest.TestCase):
    def told_through_all_parts(self, book, world, works, deeds):
        """The standing behind a run, and the keeper there; all parts tell the same of it."""
        self.assertIsNone(book_error(book))
        self.assertIsNone(world_error(world))
        book, world = read_book(book_text(book)), read_world(world_text(world))
        works, deeds = read_run(run_text(works, deeds))
        standing = led(book, world, works, deeds)
        self.assertIsNone(standing_error(len(works), standing))
        told = rounds_of(book, world, works, deeds)
        self.assertEqual(told[-1][4] if told else "no", standing[4])
        log = tuple(("do", deed) for deed in deeds)
        if len(deeds) > 60:
            return standing, None
        keeper = Keeper(book, world, works)
        for at, deed in enumerate(deeds):
            self.assertEqual(keeper.do(deed), at + 1)
        self.assertEqual(repr(keeper.standing), repr(standing))
        self.assertTrue(keeper_behind(book, world, works, read_log(len(works), log_text(log))) == keeper)
        self.assertEqual((keeper.opened(), keeper.still()), (open_deeds(book, world, standing), is_still(standing)))
        self.told_by_a_shell(keeper)
        return standing, keeper

    def told_by_a_shell(self, keeper):
        shell, standing = Shell(), keeper.standing
        lines = ["book " + book_text(keeper.book), "world " + world_text(keeper.world)]
        for line in lines + run_text(keeper.works, keeper.deeds).split("\n"):
            self.assertFalse(shell.say(line).startswith(("what", "no ", "error")), line)
        self.assertEqual(shell.say("run"), run_text(keeper.works, keeper.deeds))
        self.assertEqual(shell.say("said"), standing[4])
        self.assertEqual(shell.say("still"), "yes" if is_still(standing) else "no")
        self.assertEqual(shell.say("text"), book_text(keeper.book))
        self.assertEqual(shell.say("safe"), "yes" if is_safe(keeper.book, keeper.world) else "no")
        numbers = " ".join(str(number) for number in falls(keeper.book, keeper.world))
        self.assertEqual(shell.say("falls"), numbers or "none")
        for i, site in enumerate(standing[0]):
            self.assertEqual(shell.say(f"machine {i}"), machine_line(site))


class Safe(WholeCase):
    def test_safe_or_misled(self):
        draw, told = random.Random(161), {}
        for at in range(400):
            many, world = 2 + at // 4 % 5, WORLDS[at % 4]
            book = random_book(draw, many)
            run = losing(book, world)
            self.assertIs(run is None, is_safe(book, world))
            self.assertIs(falls(book, world) == (), is_safe(book, world))
            told[(world, many, run is None)] = True
            if run is None:
                continue
            self.assertIsNone(losing_error(book, world, run))
            self.assertLessEqual(len(run[1]), 2 * many + 16)
            standing, keeper = self.told_through_all_parts(book, world, *run)
            self.assertEqual(standing[4], "early")
            # What was said too early is not taken back by what comes behind it, but by undo.
            self.assertEqual(keeper.still(), False)
            keeper.undo()
            self.assertEqual(keeper.standing[4], "no")
            keeper.redo()
            self.assertEqual(keeper.standing[4], "early")
        self.assertGreater(len(told), 35)

    def test_shortest_runs(self):
        draw, found = random.Random(162), 0
        for at in range(120):
            world, book = WORLDS[at % 4], random_book(draw, 2)
            for letters in (0, 1, 2):
                try:
                    run = earliest(book, world, letters)
                except TooMany:
                    continue
                if run is not None:
                    found += 1
                    self.assertFalse(is_safe(book, world))
                    self.assertEqual(self.told_through_all_parts(book, world, *run)[0][4], "early")
        self.assertGreater(found, 20)

    def test_any_runs(self):
        draw, said = random.Random(163), {}
        for at in range(240):
            world = WORLDS[at % 4]
            book = random_book(draw, 2 + at // 4 % 5)
            works, deeds, standings = random_run(draw, book, world, draw.choice((10, 30, 60, 70)))
            standing, _ = self.told_through_all_parts(book, world, works, deeds)
            self.assertEqual(repr(standing), repr(standings[-1]))
            if standing[4] == "early":
                self.assertFalse(is_safe(book, world))
            said[standing[4]] = True
        self.assertEqual(set(said), {"no", "right", "early"})


class Epochs(WholeCase):
    def test_lists_and_their_runs(self):
        draw, told = random.Random(164), {}
        for at in range(300):
            many = 2 + at % 5
            some = lively_list(draw, many, draw.randint(0, 12))
            run = run_of(many, some)
            self.assertIs(run is not None, comes(many, some))
            told[run is None] = True
            if run is not None:
                standing, _ = self.told_through_all_parts(plain_book(many), SLOW, *run)
                self.assertEqual(sum(letters[2] for letters in standing[1]), sum(letter[3] == 3 for letter in some))
                self.assertEqual(standing[4] == "early", any(
                    letter[3] >= 2 and letter[1] < 2 for letter in list_of(many, *run)))
        self.assertEqual(len(told), 2)


class Soon(WholeCase):
    def test_longest_runs(self):
        draw = random.Random(165)
        for at in range(200):
            many, world = 2 + at // 4 % 5, WORLDS[at % 4]
            book = random_book(draw, many)
            run = longest(book, world)
            self.assertIsNone(longest_error(book, world, run))
            standing, keeper = self.told_through_all_parts(book, world, *run)
            left = most_visits(book, world)
            self.assertTrue(2 * many <= left <= 3 * many - 1)
            for more in range(left, 0, -1):
                self.assertEqual((visits_left(book, world, keeper.standing), keeper.standing[4]), (more, "no"))
                self.assertTrue(keeper.still())
                keeper.do(draw.choice(keeper.opened()))
            self.assertEqual(keeper.standing[4], "right")
            self.told_by_a_shell(keeper)


class Whenever(WholeCase):
    def test_doubles(self):
        parted = 0
        for one, other in pairs_of_books(166, 300):
            double = parting(one, other)
            self.assertIs(double is None, says_whenever(one, other))
            if double is not None:
                parted += 1
                self.assertNotEqual(self.told_through_all_parts(one, SLOW, *double)[0][4], "no")
                self.assertEqual(self.told_through_all_parts(other, SLOW, *double)[0][4], "no")
        self.assertGreater(parted, 50)


if __name__ == "__main__":
    unittest.main()
