"""[A4], [A5], [A6]: what books and worlds are."""

import unittest
from itertools import product

from stillrounds.books import alike_for, book_error, world_error
from stillrounds.errors import Unfit
from tests.bookkinds import LOTS, MANNERS, TESTS, WORDS, WORLDS, manners_for, some_books
from tests.helpers import CallCase, any_values

QUIET = (True, ())
NO_TESTS = [
    None, True, 1, 0, "G1=G2", "G1", "", (), ("G1",), ("G1", "G2", "S1"), ["G1", "G2"], {"G1": "G2"}, ("S1", "G1"),
    ("G2", "G1"), ("S2", "S1"), ("G1", "G1"), ("S1", "S1"), ("g1", "g2"), ("G1", None), (("G1", "G2"),), ("G3", "S1"),
    ("S2", "G1"), ("S2", "G2"), ("S1", "G2"), (1, 2), ("", ""), ("G1 ", "G2"), {}, [], [("G1", "G2")],
]
NO_MANNERS = [
    None, True, 1, "waits", (), (True,), ((),), [True, ()], (True, (), ()), (1, ()), (0, ()), (None, ()), ("waits", ()),
    ((), True), ((True,), ()), (True, []), (True, None), (True, "got lower"), (True, {}), (True, True), (True, 0),
    (True, ("got",)), (True, ("lower",)), (True, (None,)), (True, (1,)), (True, (("got lower",),)),
    (True, ["got lower"]), (True, ("got lower", "got lower")), (True, ("sent lower", "got lower")),
    (True, ("got lower", "got higher")), (False, ("got higher", "got lower", "got lower")),
    (False, ("got higher", "sent lower", "sent higher")), (True, ("got lower", None)), (True, ("got lower", ["x"])),
    (True, WORDS + ("sent lower",)), (True, WORDS[::-1]), (True, ("Got lower",)), (True, ("",)), {}, {True: ()},
    (True, ("got lower", 1)), (True, ({},)),
]


class BookError(CallCase):
    def test_books(self):
        for book in some_books():
            self.tells(None, book_error, value=book)

    def test_all_lots_and_all_manners(self):
        self.assertEqual((len(LOTS), len(MANNERS), len(WORLDS)), (64, 32, 4))
        for tests in LOTS:
            self.assertIsNone(book_error((tests, (QUIET, QUIET))))
        for manner in MANNERS:
            for i in range(6):
                manners = [QUIET] * 6
                manners[i] = manner
                self.assertIsNone(book_error(((), tuple(manners))))

    def test_there_are_no_others(self):
        pairs = [(one, other) for one in ("S1", "G1", "S2", "G2") for other in ("S1", "G1", "S2", "G2")]
        lots = [lot for many in range(3) for lot in product(pairs, repeat=many)]
        right = [lot for lot in lots if book_error((lot, (QUIET, QUIET))) is None]
        self.assertEqual(sorted(right), sorted(lot for lot in LOTS if len(lot) < 3))
        notes = [chosen for many in range(6) for chosen in product(WORDS, repeat=many)]
        manners = [(waits, chosen) for waits in (False, True, None, 0, 1) for chosen in notes]
        right = [manner for manner in manners if book_error(((), (QUIET, manner))) is None]
        self.assertEqual(sorted(right), sorted(MANNERS))
        worlds = list(product(("slow", "at once", "alike", "anew"), repeat=2))
        self.assertEqual(sorted(world for world in worlds if world_error(world) is None), list(WORLDS))

    def test_form(self):
        tests, manners = TESTS[:2], (QUIET, QUIET)
        wrong = [
            (), (tests,), (tests, manners, ()), [tests, manners], (list(tests), manners), (tests, list(manners)),
            (None, manners), (tests, None), ("", manners), (tests, ""), ({}, manners), (tests, {}), (True, manners),
            (tests, 2), (0, 0), {0: tests, 1: manners}, "book", (["no test"], []), ((None,), [None]),
        ]
        for value in wrong:
            self.tells("form", book_error, value=value)

    def test_values_of_all_kinds(self):
        for value in any_values():
            if value == ((), ()):
                expected = "manners"
            elif value == ((True, ()), (True, ())):
                expected = ("test", 0)
            else:
                expected = "form"
            self.tells(expected, book_error, value=value)
            if type(value) is not tuple:
                self.tells("form", book_error, value=(value, (QUIET, QUIET)))
                self.tells("form", book_error, value=((), value))

    def test_each_of_these_is_no_test(self):
        for value in NO_TESTS + any_values():
            self.tells(("test", 0), book_error, value=((value,), (QUIET, QUIET)))
            self.tells(("test", 1), book_error, value=((TESTS[5], value), (QUIET, QUIET)))

    def test_the_first_item_that_is_no_test(self):
        for tests in LOTS:
            for k in range(len(tests) + 1):
                put_in = tests[:k] + (["G1", "S1"],) + tests[k:]
                self.assertEqual(book_error((put_in, (QUIET, QUIET))), ("test", k))
                self.assertEqual(book_error((put_in + (None,), (QUIET, QUIET))), ("test", k))
                # What is no test is told ahead of what is out of order.
                self.assertEqual(book_error((tests[::-1] + (None,), (QUIET, QUIET))), ("test", len(tests)))

    def test_tests_that_do_not_ascend(self):
        for tests in LOTS:
            if len(tests) > 1:
                self.tells("tests", book_error, value=(tests[::-1], (QUIET, QUIET)))
            for k in range(len(tests)):
                doubled = tests[:k + 1] + tests[k:]
                self.assertEqual(book_error((doubled, (QUIET, QUIET))), "tests")
                exchanged = tests[:k] + tests[k + 1:k + 2] + tests[k:k + 1] + tests[k + 2:]
                self.assertEqual(book_error((exchanged, (QUIET, QUIET))), None if exchanged == tests else "tests")
                left_out = tests[:k] + tests[k + 1:]
                self.assertIsNone(book_error((left_out, (QUIET, QUIET))))

    def test_how_many_manners(self):
        for many in (0, 1, 7, 8, 30, 1000):
            self.tells("manners", book_error, value=(TESTS[:3], (QUIET,) * many))
            # How many they are is told ahead of what they are.
            self.tells("manners", book_error, value=((), (None,) * many))
        for many in range(2, 7):
            self.tells(None, book_error, value=(TESTS[:3], (QUIET,) * many))

    def test_each_of_these_is_no_manner(self):
        for value in NO_MANNERS + any_values():
            if value == (True, ()):
                continue
            self.tells(("manner", 0), book_error, value=((), (value, QUIET)))
            self.tells(("manner", 1), book_error, value=(TESTS, (QUIET, value, value)))

    def test_the_first_item_that_is_no_manner(self):
        for many in range(2, 7):
            manners = manners_for(many)
            for i in range(many):
                spoilt = manners[:i] + (None,) + manners[i + 1:]
                self.tells(("manner", i), book_error, value=((), spoilt))
                self.tells(("manner", i), book_error, value=((), spoilt[:-1] + ((1, ()),)))
                left_out = manners[:i] + manners[i + 1:]
                self.tells(None if many > 2 else "manners", book_error, value=((), left_out))
                doubled = manners[:i + 1] + manners[i:]
                self.tells(None if many < 6 else "manners", book_error, value=((), doubled))

    def test_words_of_a_manner(self):
        for _, notes in MANNERS:
            for k in range(len(notes)):
                doubled = (True, notes[:k + 1] + notes[k:])
                self.assertEqual(book_error(((), (QUIET, doubled))), ("manner", 1))
            if len(notes) > 1:
                self.assertEqual(book_error(((), ((True, notes[::-1]), QUIET))), ("manner", 0))

    def test_of_two_faults_the_first_one_told(self):
        bad_test, bad_order = (("G1", "G2"), None), (("S1", "S2"), ("G1", "G2"))
        few, bad_manner = (QUIET,), (QUIET, (1, ()))
        self.tells("form", book_error, value=(bad_test, list(few)))
        self.tells(("test", 1), book_error, value=(bad_test, few))
        self.tells(("test", 1), book_error, value=(bad_test, bad_manner))
        self.tells(("test", 2), book_error, value=(bad_order + ((),), few))
        self.tells("tests", book_error, value=(bad_order, few))
        self.tells("tests", book_error, value=(bad_order, bad_manner))
        self.tells("manners", book_error, value=((), ((1, ()),)))
        self.tells("manners", book_error, value=((), ((1, ()),) * 7))


class WorldError(CallCase):
    def test_worlds(self):
        for world in WORLDS:
            self.tells(None, world_error, value=world)

    def test_form(self):
        for roads, tours in WORLDS:
            for value in ((roads,), (roads, tours, tours), [roads, tours], {roads: tours}, roads, (), ((roads, tours),)):
                self.tells("form", world_error, value=value)

    def test_roads_and_tours(self):
        for roads, tours in WORLDS:
            self.tells("roads", world_error, value=(tours, roads))
            self.tells("roads", world_error, value=(tours, tours))
            self.tells("tours", world_error, value=(roads, roads))
            for value in any_values() + ["Slow", "slow ", "at  once", "atonce", "anew ", "like", ("slow",), ["alike"]]:
                if value != roads:
                    self.tells("roads" if value != "slow" else None, world_error, value=(value, tours))
                    self.tells("roads" if value != "slow" else "tours", world_error, value=(value, None))
                if value != tours:
                    self.tells("tours" if value != "alike" else None, world_error, value=(roads, value))

    def test_values_of_all_kinds(self):
        for value in any_values():
            expected = "roads" if type(value) is tuple and len(value) == 2 else "form"
            self.tells(expected, world_error, value=value)


class AlikeFor(CallCase):
    def test_books(self):
        for many in range(2, 7):
            for tests in LOTS[::3]:
                for manner in MANNERS[::5]:
                    expected = (tests, tuple(manner for _ in range(many)))
                    self.tells(expected, alike_for, tests=tests, manner=manner, many=many)
                    self.assertIsNone(book_error(alike_for(tests, manner, many)))

    def test_unfit(self):
        for many in any_values() + [-2, 7, 8, 400, "2", (2,), [2], {2: 2}, "two"]:
            if many in (2, 6) and type(many) is int:
                continue
            self.raises(Unfit(), alike_for, tests=TESTS[:1], manner=QUIET, many=many)


if __name__ == "__main__":
    unittest.main()
