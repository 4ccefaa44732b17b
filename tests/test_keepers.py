"""[K1], [K2], [K3], [K5]: keepers of runs."""

import random
import unittest

from stillrounds.books import book_error
from stillrounds.errors import (
    BadBook, NothingToRedo, NothingToUndo, Refused, StillError, TooManyEdits, Unfit,
)
from stillrounds.keepers import Keeper
from stillrounds.moving import led
from stillrounds.safety import is_safe
from tests.bookkinds import WORLDS, all_small_books
from tests.courses import Course
from tests.helpers import any_values, is_fixed, outcome
from tests.model import random_run
from tests.ownkeepers import COUNTED, NO_DEEDS, QUIET, SLOW, Own, kept_runs, shown


class KeeperCase(unittest.TestCase):
    def does(self, expected, method, *values):
        self.assertEqual(outcome(method, *values), expected)

    def step(self, keeper, own, draw):
        """One call on both; it tells the same, and behind it all is the same."""
        kind = draw.choices(("do", "odd", "undo", "redo", "look"), (10, 2, 3, 3, 1))[0]
        if kind in ("do", "odd"):
            deeds = own.course().deeds()
            deed = draw.choice(deeds) if kind == "do" and deeds else draw.choice(NO_DEEDS)
            told = outcome(keeper.do, deed)
            self.assertEqual(told, own.do(deed))
        elif kind == "look":
            told = ""
            self.assertEqual(repr(keeper.opened()), repr(tuple(sorted(own.course().deeds()))))
            self.assertTrue(keeper.twin() == keeper)
        else:
            told = outcome(getattr(keeper, kind))
            self.assertEqual(told, getattr(own, kind)())
        self.assertEqual(shown(keeper), own.shown())
        return kind, told.partition("(")[0] if told.startswith("raises") else "told"


class Edits(KeeperCase):
    def test_calls_in_any_order(self):
        told = {}
        for book, world, works, draw in kept_runs(141, 160):
            keeper, own = Keeper(book, world, works), Own(book, world, works)
            self.assertEqual(shown(keeper), own.shown())
            for _ in range(40):
                told[self.step(keeper, own, draw)] = True
        self.assertEqual(set(told), {
            ("do", "told"), ("do", "raises Refused"), ("odd", "raises Refused"), ("undo", "told"), ("redo", "told"),
            ("undo", "raises NothingToUndo"), ("redo", "raises NothingToRedo"), ("look", "told")})

    def test_twins_go_their_own_ways(self):
        for book, world, works, draw in kept_runs(142, 80):
            pairs = [(Keeper(book, world, works), Own(book, world, works))]
            for at in range(60):
                keeper, own = draw.choice(pairs)
                if at % 12 == 11:
                    pairs.append((keeper.twin(), own.twin()))
                else:
                    self.step(keeper, own, draw)
                for other, its in pairs:
                    self.assertEqual((other.deeds, other.undone), (tuple(its.stand), len(its.back)))
            for keeper, own in pairs:
                self.assertEqual(shown(keeper), own.shown())
                # What can be done again is the same, too.
                while own.back:
                    self.does(own.redo(), keeper.redo)
                    self.assertEqual(shown(keeper), own.shown())
                self.does("raises NothingToRedo()", keeper.redo)

    def test_all_back_and_all_again(self):
        for book, world, works, draw in kept_runs(143, 60):
            _, deeds, _ = random_run(draw, book, world, 30)
            keeper = Keeper(book, world, works)
            shows = [shown(keeper)]
            for deed in deeds:
                if deed in keeper.opened():
                    self.assertEqual(keeper.do(deed), len(shows))
                    shows.append(shown(keeper))
            many = len(shows) - 1
            for at in range(many - 1, -1, -1):
                self.assertEqual(keeper.undo(), at)
                self.assertEqual((keeper.version, keeper.undone), (at, many - at))
                self.assertEqual(repr(keeper.standing), repr(led(book, world, works, keeper.deeds)))
            self.does("raises NothingToUndo()", keeper.undo)
            self.assertTrue(keeper == Keeper(book, world, works))
            for at in range(1, many + 1):
                self.assertEqual(keeper.redo(), at)
                self.assertEqual((keeper.version, keeper.undone), (at, many - at))
                self.assertEqual(repr(keeper.standing), repr(led(book, world, works, keeper.deeds)))
            self.does("raises NothingToRedo()", keeper.redo)
            self.assertEqual(shown(keeper), shows[-1])

    def test_a_deed_takes_away_what_could_be_done_again(self):
        for again in (("rest", 0), ("send", 0, 1)):
            keeper = Keeper(COUNTED, SLOW, (True, False))
            for deed in (("send", 0, 1), ("rest", 0), ("get", 0, 1)):
                keeper.do(deed)
            keeper.undo()
            keeper.undo()
            self.assertEqual((keeper.version, keeper.undone), (1, 2))
            self.assertEqual(keeper.do(again), 2)
            self.assertEqual((keeper.deeds, keeper.undone), ((("send", 0, 1), again), 0))
            self.does("raises NothingToRedo()", keeper.redo)
            # What is refused takes nothing away.
            keeper.undo()
            self.does("raises Refused(('visit', 0))", keeper.do, ("visit", 0))
            self.assertEqual((keeper.version, keeper.undone), (1, 1))
            self.assertEqual(keeper.redo(), 2)

    def test_undo_and_redo_change_nothing_together(self):
        for book, world, works, draw in kept_runs(144, 40):
            keeper, own = Keeper(book, world, works), Own(book, world, works)
            for _ in range(30):
                self.step(keeper, own, draw)
                before = shown(keeper)
                if keeper.version:
                    keeper.undo()
                    keeper.redo()
                    self.assertEqual(shown(keeper), before)
                if keeper.undone:
                    keeper.redo()
                    keeper.undo()
                    self.assertEqual(shown(keeper), before)


class SixtyDeeds(KeeperCase):
    def test_sixty_and_one_more(self):
        for world in WORLDS:
            keeper = Keeper(COUNTED, world, (True, False))
            for at in range(60):
                self.assertEqual(keeper.do(("send", 0, 1)), at + 1)
            before = shown(keeper)
            self.does("raises TooManyEdits()", keeper.do, ("send", 0, 1))
            self.does("raises TooManyEdits()", keeper.do, ("rest", 0))
            # What cannot be done is refused ahead of that.
            for deed in NO_DEEDS + [("visit", 0), ("get", 1, 0), ("send", 0, 2)]:
                self.does(f"raises Refused({deed!r})", keeper.do, deed)
            self.assertEqual(shown(keeper), before)
            self.does("raises NothingToRedo()", keeper.redo)
            self.assertEqual(keeper.undo(), 59)
            self.assertEqual(keeper.do(("rest", 0)), 60)
            self.does("raises Refused(('send', 0, 1))", keeper.do, ("send", 0, 1))
            self.assertEqual(keeper.deeds, (("send", 0, 1),) * 59 + (("rest", 0),))

    def test_all_sixty_back_and_again(self):
        keeper = Keeper(COUNTED, SLOW, (True, True))
        deeds = (("send", 0, 1), ("get", 0, 1), ("send", 1, 0), ("get", 1, 0)) * 15
        for deed in deeds:
            keeper.do(deed)
        for _ in range(60):
            keeper.undo()
        self.assertEqual((keeper.version, keeper.undone, keeper.deeds), (0, 60, ()))
        for _ in range(60):
            keeper.redo()
        self.assertEqual((keeper.version, keeper.undone, keeper.deeds), (60, 0, deeds))
        self.does("raises TooManyEdits()", keeper.do, ("send", 0, 1))
        for _ in range(5):
            keeper.undo()
        self.assertEqual((keeper.version, keeper.undone), (55, 5))
        for at in range(5):
            self.assertEqual(keeper.do(("rest", 0) if at == 0 else ("send", 1, 0)), 56 + at)
        self.does("raises TooManyEdits()", keeper.do, ("send", 1, 0))


class Making(KeeperCase):
    def test_bad_books(self):
        for value in any_values() + [((), ()), ((), (QUIET,)), ((("G1", "S2"), ("G1", "G2")), (QUIET, QUIET)),
                                     ((None,), (QUIET, QUIET)), ((), (QUIET, (1, ())))]:
            error = book_error(value)
            self.assertIsNotNone(error)
            # What is wrong with the book is told ahead of all else.
            for world in (SLOW, None, ("slow",)):
                for works in ((True, False), None):
                    self.does(f"raises BadBook({error!r})", Keeper, value, world, works)

    def test_unfit(self):
        for value in any_values():
            self.does("raises Unfit()", Keeper, COUNTED, value, (True, False))
            self.does("raises Unfit()", Keeper, COUNTED, SLOW, value)
            self.does("raises Unfit()", Keeper, COUNTED, value, value)
        for works in ((), (True,), (True, False, True), [True, False], (True, 0), (1, 0), (None, True), "wr"):
            self.does("raises Unfit()", Keeper, COUNTED, SLOW, works)
        for world in (["slow", "alike"], ("slow", "anew", "anew"), ("fast", "alike"), ("slow", "same"), "slow, alike"):
            self.does("raises Unfit()", Keeper, COUNTED, world, (True, False))
        for many in range(2, 7):
            for length in range(8):
                told = outcome(Keeper, ((), (QUIET,) * many), SLOW, (True,) * length)
                self.assertEqual(told == "raises Unfit()", length != many)

    def test_errors_by_class(self):
        keeper = Keeper(COUNTED, SLOW, (False, False))
        for error, call in ((BadBook, lambda: Keeper(None, SLOW, ())), (Unfit, lambda: Keeper(COUNTED, SLOW, ())),
                            (Refused, lambda: keeper.do(None)), (NothingToUndo, keeper.undo),
                            (NothingToRedo, keeper.redo)):
            with self.assertRaises(error) as caught:
                call()
            self.assertIs(type(caught.exception), error)
            self.assertIsInstance(caught.exception, StillError)
        for _ in range(60):
            keeper = keeper if keeper.version else Keeper(COUNTED, SLOW, (True, False))
            keeper.do(("send", 0, 1))
        with self.assertRaises(TooManyEdits):
            keeper.do(("send", 0, 1))

    def test_new_ones(self):
        for many in range(2, 7):
            for world in WORLDS:
                works = tuple(i % 2 == 0 for i in range(many))
                book = ((("G1", "S2"),), (QUIET,) * many)
                for keeper in (Keeper(book, world, works), Keeper(works=works, book=book, world=world)):
                    self.assertEqual((keeper.book, keeper.world, keeper.works), (book, world, works))
                    self.assertEqual(repr(keeper.standing), repr(Course(book, world, works).standing()))
                    self.assertEqual(repr((keeper.deeds, keeper.version, keeper.undone)), "((), 0, 0)")
                    self.assertFalse(keeper.still())
        self.assertIs(Keeper(COUNTED, SLOW, (False, False)).still(), True)

    def test_by_name(self):
        keeper = Keeper(COUNTED, SLOW, (True, False))
        self.assertEqual(keeper.do(deed=("rest", 0)), 1)
        self.does("raises Refused(None)", lambda: keeper.do(deed=None))

    def test_refused_keeps_what_was_handed_in(self):
        keeper = Keeper(COUNTED, SLOW, (True, False))
        before = shown(keeper)
        for value in any_values() + NO_DEEDS:
            ahead = repr(value)
            with self.assertRaises(Refused) as caught:
                keeper.do(value)
            self.assertIs(caught.exception.deed, value)
            self.assertEqual(repr(value), ahead)
        self.assertEqual(shown(keeper), before)


class Alike(KeeperCase):
    def test_equal_and_not(self):
        keepers = []
        for book in (COUNTED, ((), COUNTED[1]), (COUNTED[0], (QUIET, (False, ())))):
            for world in WORLDS:
                for works in ((True, False), (False, True), (False, False)):
                    keepers.append(Keeper(book, world, works))
                    keeper = Keeper(book, world, works)
                    if works[0]:
                        keeper.do(("send", 0, 1))
                    keepers.append(keeper)
        for one in keepers:
            for other in keepers:
                same = repr((one.book, one.world, one.standing)) == repr((other.book, other.world, other.standing))
                self.assertIs(one == other, same)
                self.assertIs(one != other, not same)

    def test_which_deeds_led_there_plays_no_part(self):
        one, other = Keeper(COUNTED, SLOW, (True, True)), Keeper(COUNTED, SLOW, (True, True))
        for keeper, deeds in ((one, (("rest", 0), ("rest", 1))), (other, (("rest", 1), ("rest", 0)))):
            for deed in deeds:
                keeper.do(deed)
        self.assertTrue(one == other and not one != other)
        self.assertTrue(one == Keeper(COUNTED, SLOW, (False, False)), "nor who worked at first")
        one.do(("visit", 0))
        self.assertTrue(one != other and not one == other)
        one.undo()
        self.assertTrue(one == other and one.undone == 1)
        self.assertEqual(one.twin().undone, 1)

    def test_equal_to_nothing_else(self):
        keeper = Keeper(COUNTED, SLOW, (True, False))
        others = any_values() + [COUNTED, keeper.standing, (keeper.book, keeper.world, keeper.standing), Keeper, object()]
        for other in others:
            self.assertIs(keeper == other, False)
            self.assertIs(other == keeper, False)
            self.assertIs(keeper != other, True)
            self.assertIs(other != keeper, True)
        self.assertTrue(keeper in [keeper.twin()])
        self.does("raises Refused(" + repr(keeper) + ")", keeper.do, keeper)
        self.does("raises Unfit()", Keeper, COUNTED, keeper, (True, False))
        self.does("raises BadBook('form')", Keeper, keeper, SLOW, (True, False))


class Holds(KeeperCase):
    def test_what_is_read_is_fixed(self):
        for book, world, works, draw in kept_runs(145, 20):
            keeper, own = Keeper(book, world, works), Own(book, world, works)
            for _ in range(25):
                read = (keeper.book, keeper.world, keeper.works, keeper.standing, keeper.deeds, keeper.opened())
                ahead = repr(read)
                self.assertTrue(is_fixed(read + (keeper.version, keeper.undone, keeper.still())))
                self.step(keeper, own, draw)
                self.assertEqual(repr(read), ahead, "what was returned does not change later")

    def test_safe_books_never_tell_early(self):
        draw, early = random.Random(146), 0
        books = all_small_books([(), (("G2", "S2"),)], [(True, ()), (True, ("got lower",)), (False, ())])
        for at in range(1200):
            book, world = draw.choice(books), WORLDS[at % 4]
            keeper = Keeper(book, world, (True, draw.random() < 0.5))
            while keeper.opened() and keeper.version < 60:
                keeper.do(draw.choice([deed for deed in keeper.opened() if deed[0] in ("visit", "rest")
                                       and draw.random() < 0.5] or keeper.opened()))
            if keeper.standing[4] == "early":
                early += 1
                self.assertFalse(is_safe(book, world))
        self.assertGreater(early, 20)


if __name__ == "__main__":
    unittest.main()
