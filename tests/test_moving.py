"""[B3], [B4], [B5]: which deeds can be done, and the standings behind them."""

import unittest
from itertools import product

from stillrounds.errors import Refused, TooMany
from stillrounds.moving import after, deed_error, led, open_deeds
from stillrounds.standings import start
from tests.bookkinds import WORDS, WORLDS
from tests.helpers import CallCase, any_values, is_fixed
from tests.model import error_of, random_runs, standing_behind, words_of_deeds

SLOW, ONCE, SLOW_ANEW, ONCE_ANEW = ("slow", "alike"), ("at once", "alike"), ("slow", "anew"), ("at once", "anew")
QUIET, KEEN, HASTY = (True, ()), (True, WORDS), (False, ())
FORMLESS = [
    ("send",), ("send", 0), ("send", 0, 1, 2), ("get",), ("get", 0), ("get", 0, 1, 2), ("rest",), ("rest", 0, 1),
    ("visit",), ("visit", 0, 1), ("sent", 0, 1), ("Rest", 0), ("", 0), ("resting", 0), ("visit ", 0), (None, 0),
    (0, "rest"), (("rest",), 0), (["rest"], 0), ({}, 0), (True, 0), ["rest", 0], ["send", 0, 1], {"rest": 0},
    {"rest": 0, 0: 1}, "rest 0", "rest", ("r", 0), (("rest", 0),), ("rest", (0,), 1), ("send", (0, 1)),
]
NO_MACHINES = [-1, 3, 6, 10 ** 399, -(10 ** 399), None, True, False, "0", "", (0,), [0], {}, (), [], {0: 0}]


def book_for(manners, tests=()):
    return (tests, tuple(manners))


class SendGetRest(CallCase):
    """The deeds of machines, one behind another."""

    def leads(self, book, world, works, steps):
        standing = start(works)
        for at, (deed, expected) in enumerate(steps):
            self.tells(expected, after, book=book, world=world, standing=standing, deed=deed)
            deeds = tuple(deed for deed, _ in steps[:at + 1])
            self.tells(expected, led, book=book, world=world, works=works, deeds=deeds)
            standing = expected

    def test_on_slow_roads(self):
        new = ((), 0, 0, False)
        rests = (False, 0, 0, ())
        self.leads(book_for([QUIET] * 3), SLOW, (False, True, False), [
            (("send", 1, 2), ((rests, (True, 1, 0, ("sent higher",)), rests), ((1, 2, 1),), new, None, "no")),
            (("send", 1, 0), (
                (rests, (True, 2, 0, ("sent higher", "sent lower")), rests), ((1, 0, 1), (1, 2, 1)), new, None, "no")),
            (("send", 1, 2), (
                (rests, (True, 3, 0, ("sent higher", "sent lower")), rests), ((1, 0, 1), (1, 2, 2)), new, None, "no")),
            (("get", 1, 2), (
                (rests, (True, 3, 0, ("sent higher", "sent lower")), (True, 0, 1, ("got lower",))),
                ((1, 0, 1), (1, 2, 1)), new, None, "no")),
            (("get", 1, 0), (
                ((True, 0, 1, ("got higher",)), (True, 3, 0, ("sent higher", "sent lower")),
                 (True, 0, 1, ("got lower",))), ((1, 2, 1),), new, None, "no")),
            (("get", 1, 2), (
                ((True, 0, 1, ("got higher",)), (True, 3, 0, ("sent higher", "sent lower")),
                 (True, 0, 2, ("got lower",))), (), new, None, "no")),
            (("rest", 2), (
                ((True, 0, 1, ("got higher",)), (True, 3, 0, ("sent higher", "sent lower")),
                 (False, 0, 2, ("got lower",))), (), new, None, "no")),
            (("send", 0, 2), (
                ((True, 1, 1, ("got higher", "sent higher")), (True, 3, 0, ("sent higher", "sent lower")),
                 (False, 0, 2, ("got lower",))), ((0, 2, 1),), new, None, "no")),
            (("rest", 0), (
                ((False, 1, 1, ("got higher", "sent higher")), (True, 3, 0, ("sent higher", "sent lower")),
                 (False, 0, 2, ("got lower",))), ((0, 2, 1),), new, None, "no")),
            (("get", 0, 2), (
                ((False, 1, 1, ("got higher", "sent higher")), (True, 3, 0, ("sent higher", "sent lower")),
                 (True, 0, 3, ("got lower",))), (), new, None, "no")),
        ])

    def test_at_once(self):
        new = ((), 0, 0, False)
        rests = (False, 0, 0, ())
        self.leads(book_for([QUIET] * 3), ONCE, (False, True, False), [
            (("send", 1, 0), (
                ((True, 0, 1, ("got higher",)), (True, 1, 0, ("sent lower",)), rests), (), new, None, "no")),
            (("rest", 1), (
                ((True, 0, 1, ("got higher",)), (False, 1, 0, ("sent lower",)), rests), (), new, None, "no")),
            (("send", 0, 2), (
                ((True, 1, 1, ("got higher", "sent higher")), (False, 1, 0, ("sent lower",)),
                 (True, 0, 1, ("got lower",))), (), new, None, "no")),
            (("send", 2, 1), (
                ((True, 1, 1, ("got higher", "sent higher")), (True, 1, 1, ("got higher", "sent lower")),
                 (True, 1, 1, ("got lower", "sent lower"))), (), new, None, "no")),
            (("send", 2, 1), (
                ((True, 1, 1, ("got higher", "sent higher")), (True, 1, 2, ("got higher", "sent lower")),
                 (True, 2, 1, ("got lower", "sent lower"))), (), new, None, "no")),
        ])

    def test_letters_stay_in_order(self):
        book, deeds, letters = book_for([QUIET] * 4), [], {}
        standing = start((True,) * 4)
        pairs = [(3, 2), (0, 3), (2, 0), (0, 1), (3, 0), (0, 3), (2, 0), (1, 0), (0, 3)]
        for pair in pairs:
            deeds.append(("send",) + pair)
            letters[pair] = letters.get(pair, 0) + 1
            standing = after(book, SLOW, standing, deeds[-1])
            self.assertEqual(standing[1], tuple(pair + (letters[pair],) for pair in sorted(letters)))
        for pair in pairs:
            letters[pair] -= 1
            standing = after(book, SLOW, standing, ("get",) + pair)
            told = tuple(pair + (letters[pair],) for pair in sorted(letters) if letters[pair] > 0)
            self.assertEqual(standing[1], told)


class Visits(CallCase):
    """Visits, the sums of rounds, what spoils them, and what is said."""

    def behind(self, book, world, works, deeds):
        self.assertEqual(self.outcome_of(led, {"book": book, "world": world, "works": works, "deeds": deeds}),
                         repr(standing_behind(book, world, works, deeds)))
        return led(book, world, works, deeds)

    def test_what_a_visit_adds_and_forgets(self):
        book = book_for([HASTY, (False, ("sent lower",)), (False, ("got lower", "sent higher"))])
        deeds = (("send", 2, 1), ("get", 2, 1), ("send", 1, 2), ("visit", 0), ("visit", 1))
        standing = self.behind(book, SLOW, (False, False, True), deeds)
        self.assertEqual(standing, (
            ((False, 0, 0, ()), (True, 1, 1, ()), (True, 1, 0, ("sent lower",))), ((1, 2, 1),),
            ((0, 1), 1, 1, True), None, "no"))
        standing = self.behind(book, SLOW, (False, False, True), deeds + (("get", 1, 2), ("visit", 2)))
        self.assertEqual(standing, (
            ((False, 0, 0, ()), (True, 1, 1, ()), (True, 1, 1, ())), (), ((), 0, 0, False), (2, 2), "no"))

    def test_each_word_spoils_just_where_it_is_noted(self):
        happens = {
            "got higher": (("send", 2, 1), ("get", 2, 1), ("rest", 1)),
            "got lower": (("send", 0, 1), ("get", 0, 1), ("rest", 1)),
            "sent higher": (("send", 1, 2), ("rest", 1)),
            "sent lower": (("send", 1, 0), ("rest", 1)),
        }
        rests = {"got higher": ("rest", 2), "got lower": ("rest", 0)}
        for word, noted, waits in product(WORDS, WORDS, (True, False)):
            book = book_for([QUIET, (waits, (noted,)), QUIET])
            works = tuple(i == happens[word][0][1] for i in range(3))
            deeds = happens[word] + ((rests[word],) if word in rests else ()) + (("visit", 0), ("visit", 1))
            standing = self.behind(book, SLOW, works, deeds)
            self.assertEqual(standing[0][1][3], ())
            self.assertIs(standing[2][3], word == noted)

    def test_who_works_spoils_the_round_and_it_stays_spoilt(self):
        book = book_for([HASTY, HASTY, HASTY])
        for works in product((False, True), repeat=3):
            standing = start(works)
            for i in range(2):
                standing = after(book, SLOW, standing, ("visit", i))
                self.assertEqual(standing[2], (tuple(range(i + 1)), 0, 0, any(works[:i + 1])))
                self.assertEqual(standing[0][i], (works[i], 0, 0, ()))

    def test_a_spoilt_round_stands_in_before(self):
        book = book_for([HASTY, HASTY])
        deeds = (("send", 0, 1), ("visit", 0), ("visit", 1))
        standing = self.behind(book, SLOW, (True, False), deeds)
        self.assertEqual(standing[2:], (((), 0, 0, False), (1, 0), "no"))
        standing = self.behind(book, SLOW, (True, False), deeds + deeds)
        self.assertEqual(standing[2:], (((), 0, 0, False), (2, 0), "no"))
        # Two rounds more: the one ahead may be spoilt, this one may not.
        standing = self.behind(book, SLOW, (True, False), deeds + (("rest", 0), ("visit", 0), ("visit", 1)))
        self.assertEqual(standing[2:], (((0, 1), 1, 0, False), (1, 0), "early"))

    def test_nothing_is_said_by_the_first_round(self):
        for many in range(2, 7):
            book, works = book_for([QUIET] * many), (False,) * many
            visits = tuple(("visit", i) for i in range(many))
            standing = self.behind(book, SLOW, works, visits)
            self.assertEqual(standing[2:], (((), 0, 0, False), (0, 0), "no"))
            standing = self.behind(book, SLOW, works, visits + visits[:-1])
            self.assertEqual(standing[2:], ((tuple(range(many - 1)), 0, 0, False), (0, 0), "no"))
            standing = self.behind(book, SLOW, works, visits + visits)
            self.assertEqual(standing[2:], ((tuple(range(many)), 0, 0, False), (0, 0), "right"))

    def test_each_test_asks_its_own_sums(self):
        # The first round tells 2 sent, 0 got; what the second one tells is varied.
        first = (("send", 0, 1), ("send", 0, 1), ("rest", 0), ("visit", 0), ("visit", 1))
        woken = (("get", 0, 1), ("rest", 1))
        seconds = [(), woken, woken + woken, (("get", 0, 1), ("send", 1, 0), ("rest", 1)),
                   (("get", 0, 1), ("get", 0, 1), ("send", 1, 0), ("send", 1, 0), ("rest", 1))]
        for between in seconds:
            sums = self.behind(book_for([QUIET, QUIET], (("G1", "S1"),)), SLOW, (True, False),
                               first + between + (("visit", 0), ("visit", 1)))[3]
            named = {"S1": 2, "G1": 0, "S2": sums[0], "G2": sums[1]}
            for test in (("G1", "G2"), ("G1", "S1"), ("G1", "S2"), ("G2", "S1"), ("G2", "S2"), ("S1", "S2")):
                standing = self.behind(book_for([QUIET, QUIET], (test,)), SLOW, (True, False),
                                       first + between + (("visit", 0), ("visit", 1)))
                self.assertEqual(standing[4] != "no", named[test[0]] == named[test[1]])

    def test_all_tests_have_to_hold(self):
        deeds = (("send", 0, 1), ("rest", 0), ("visit", 0), ("visit", 1), ("visit", 0), ("visit", 1))
        for tests, said in (((("G1", "G2"), ("S1", "S2")), "early"), ((("G1", "G2"), ("G1", "S1")), "no"),
                            ((("G1", "G2"), ("G1", "S1"), ("S1", "S2")), "no"), ((("G2", "S2"), ("S1", "S2")), "no")):
            self.assertEqual(self.behind(book_for([QUIET, QUIET], tests), SLOW, (True, False), deeds)[4], said)

    def test_early_or_right(self):
        book = book_for([HASTY, QUIET])
        rounds = (("visit", 0), ("visit", 1), ("visit", 0), ("visit", 1))
        self.assertEqual(self.behind(book, SLOW, (False, False), rounds)[4], "right")
        # 1 works behind its visit, by a letter that was under way.
        letter = (("send", 0, 1), ("rest", 0))
        self.assertEqual(self.behind(book, SLOW, (True, False), letter + rounds)[4], "early")
        # 0 is woken behind its visit, and no letter is under way.
        both = (("send", 1, 0), ("rest", 1)) + rounds[:3] + (("get", 1, 0),) + rounds[3:]
        standing = self.behind(book, SLOW, (False, True), both)
        self.assertEqual((standing[1], standing[4]), ((), "early"))

    def test_machines_go_on_once_it_is_said(self):
        book = book_for([QUIET, QUIET])
        deeds = (("send", 0, 1), ("rest", 0), ("visit", 0), ("visit", 1), ("visit", 0), ("visit", 1))
        said = self.behind(book, SLOW, (True, False), deeds)
        self.assertEqual(open_deeds(book, SLOW, said), (("get", 0, 1),))
        more = (("get", 0, 1), ("send", 1, 0), ("rest", 1), ("get", 1, 0))
        standing = self.behind(book, SLOW, (True, False), deeds + more)
        self.assertEqual(standing[2:], (((0, 1), 1, 0, False), (1, 0), "early"))
        self.assertEqual(standing[0], ((True, 1, 1, ("got higher",)), (False, 1, 1, ("got lower", "sent lower"))))
        for i in range(2):
            self.assertEqual(deed_error(book, SLOW, standing, ("visit", i)), "said")

    def test_tours_anew(self):
        book = book_for([QUIET] * 3)
        orders = ((2, 0, 1), (1, 0, 2))
        for world in (SLOW_ANEW, ONCE_ANEW):
            visits = tuple(("visit", i) for order in orders for i in order)
            self.assertEqual(self.behind(book, world, (False,) * 3, visits[:2])[2], ((2, 0), 0, 0, False))
            self.assertEqual(self.behind(book, world, (False,) * 3, visits)[2:], (((1, 0, 2), 0, 0, False), (0, 0), "right"))


class DeedError(CallCase):
    def told(self, expected, book, world, standing, value):
        self.tells(expected, deed_error, book=book, world=world, standing=standing, value=value)

    def test_form(self):
        book = book_for([QUIET] * 3)
        for standing in (start((True, False, True)), led(book, SLOW, (True,) * 3, (("send", 0, 1), ("rest", 0)))):
            for value in FORMLESS + any_values():
                self.told("form", book, SLOW, standing, value)

    def test_machine(self):
        book, standing = book_for([QUIET] * 3), start((True, True, True))
        for world in WORLDS:
            for machine in NO_MACHINES:
                values = [(word, machine) for word in ("rest", "visit")]
                for word in ("send", "get"):
                    values += [(word, machine, 1), (word, 1, machine), (word, machine, machine), (word, machine, 0)]
                for value in values:
                    self.told("machine", book, world, standing, value)
            for word, machine in product(("send", "get"), range(3)):
                self.told("machine", book, world, standing, (word, machine, machine))

    def test_the_words_in_the_order_told(self):
        book = book_for([QUIET, HASTY])
        one = start((True, False))
        # Machines are asked ahead of roads, roads ahead of letters.
        self.told("machine", book, ONCE, one, ("get", 0, 2))
        self.told("roads", book, ONCE, one, ("get", 0, 1))
        self.told("roads", book, ONCE, one, ("get", 1, 0))
        self.told("nothing", book, SLOW, one, ("get", 0, 1))
        self.told("rests", book, SLOW, one, ("send", 1, 0))
        self.told("rests", book, SLOW, one, ("rest", 1))
        self.told(None, book, SLOW, one, ("rest", 0))
        self.told("works", book, SLOW, one, ("visit", 0))
        # It is the turn that is told where it is not, and the machine works as well.
        both = start((True, True))
        quiet = book_for([QUIET, QUIET])
        self.told("turn", quiet, SLOW, both, ("visit", 1))
        self.told("works", quiet, SLOW_ANEW, both, ("visit", 1))
        self.told("works", quiet, SLOW, both, ("visit", 0))
        # Who does not wait may be visited though it works.
        self.told(None, book, SLOW_ANEW, both, ("visit", 1))
        self.told(None, book_for([HASTY, QUIET]), SLOW, both, ("visit", 0))
        # That all is said is told ahead of the turn.
        said = led(quiet, SLOW, (True, False), (
            ("send", 0, 1), ("rest", 0), ("visit", 0), ("visit", 1), ("visit", 0), ("visit", 1), ("get", 0, 1)))
        self.assertEqual(said[4], "early")
        for i in range(2):
            self.told("said", quiet, SLOW, said, ("visit", i))
        self.told("machine", quiet, SLOW, said, ("visit", 2))
        self.told(None, quiet, SLOW, said, ("send", 1, 0))

    def test_turn(self):
        for world in (SLOW, ONCE):
            book, standing = book_for([QUIET] * 4), start((False,) * 4)
            for i in range(3):
                for j in range(4):
                    self.told(None if i == j else "turn", book, world, standing, ("visit", j))
                standing = after(book, world, standing, ("visit", i))
        for world in (SLOW_ANEW, ONCE_ANEW):
            book, standing, visited = book_for([QUIET] * 4), start((False,) * 4), []
            for i in (2, 0, 3):
                for j in range(4):
                    self.told("turn" if j in visited else None, book, world, standing, ("visit", j))
                visited.append(i)
                standing = after(book, world, standing, ("visit", i))

    def test_nothing(self):
        book = book_for([QUIET] * 3)
        standing = led(book, SLOW, (True,) * 3, (("send", 0, 1), ("send", 2, 1), ("get", 0, 1)))
        for i, j in product(range(3), repeat=2):
            if i != j:
                self.told(None if (i, j) == (2, 1) else "nothing", book, SLOW, standing, ("get", i, j))


class OpenDeeds(CallCase):
    def test_starts(self):
        for many in range(2, 7):
            book = book_for([QUIET] * many)
            for works in product((False, True), repeat=many):
                for world in WORLDS:
                    wanted = [("rest", i) for i in range(many) if works[i]]
                    wanted += [("send", i, j) for i in range(many) for j in range(many) if works[i] and i != j]
                    wanted += [("visit", i) for i in range(many) if not works[i] and (i == 0 or world[1] == "anew")]
                    self.assertEqual(open_deeds(book, world, start(works)), tuple(wanted))
            self.tells(tuple(wanted), open_deeds, book=book, world=world, standing=start(works))


class AfterAndLed(CallCase):
    BOOK = ((("G1", "S2"),), (QUIET,) * 3)

    def test_refused(self):
        standing = led(self.BOOK, SLOW, (True, False, False), (("send", 0, 1),))
        values = FORMLESS + any_values() + [("rest", True), ("visit", 0), ("get", 1, 0), ("rest", 1), ("send", 0, 3)]
        for value in values:
            self.raises(Refused(value), after, book=self.BOOK, world=SLOW, standing=standing, deed=value)
            with self.assertRaises(Refused) as caught:
                after(self.BOOK, SLOW, standing, value)
            self.assertIs(caught.exception.deed, value)

    def test_refused_with_the_first_one_at_any_place(self):
        works = (True, False, False)
        deeds = (("send", 0, 1), ("rest", 0), ("visit", 0), ("get", 0, 1), ("rest", 1), ("visit", 1), ("visit", 2))
        for at in range(len(deeds) + 1):
            for wrong in (None, ["rest", 0], ("rest", 2), ("send", 2, 0), ("rest",), ("get", 2, 1)):
                spoilt = deeds[:at] + (wrong,) + deeds[at:] + (("rest", 7),)
                self.raises(Refused(wrong), led, book=self.BOOK, world=SLOW, works=works, deeds=spoilt)
        # A deed that could be done once, but not when its turn comes.
        self.raises(Refused(("visit", 0)), led, book=self.BOOK, world=SLOW, works=works, deeds=deeds[2:])
        self.raises(Refused(("rest", 0)), led, book=self.BOOK, world=SLOW, works=works, deeds=deeds[:2] + deeds[1:])

    def test_no_deeds(self):
        for works in product((False, True), repeat=3):
            self.tells(start(works), led, book=self.BOOK, world=SLOW, works=works, deeds=())

    def test_four_hundred_deeds_and_one_more(self):
        works = (True, False, False)
        deeds = (("send", 0, 1),) * 400
        standing = led(self.BOOK, SLOW, works, deeds)
        self.assertEqual(standing[0][0], (True, 400, 0, ("sent higher",)))
        self.assertEqual(standing[1], ((0, 1, 400),))
        self.raises(Refused(None), led, book=self.BOOK, world=SLOW, works=works, deeds=deeds[1:] + (None,))
        for many in (deeds + deeds[:1], (None,) * 401, (None,) + deeds, deeds + (None,), deeds * 3):
            self.raises(TooMany(400), led, book=self.BOOK, world=SLOW, works=works, deeds=many)


class Runs(unittest.TestCase):
    """Many runs, against a model that works each standing out anew from all that has happened."""

    def test_standings(self):
        ends = {}
        for book, world, works, deeds, standings in random_runs(1983, 400, 36):
            for at, standing in enumerate(standings[1:]):
                told = after(book, world, standings[at], deeds[at])
                self.assertEqual(repr(told), repr(standing), (book, world, works, deeds[:at + 1]))
                self.assertTrue(is_fixed(told))
            self.assertEqual(repr(led(book, world, works, deeds)), repr(standings[-1]))
            ends[(world, standings[-1][4])] = ends.get((world, standings[-1][4]), 0) + 1
        self.assertEqual(len(ends), 12, "each world has runs in which it is said rightly, early, and not")

    def test_deeds(self):
        told = {}
        for book, world, _, _, standings in random_runs(1987, 80, 30):
            for standing in standings[::4]:
                can = []
                for deed in words_of_deeds(len(book[1])):
                    expected = error_of(book, world, standing, deed)
                    self.assertEqual(deed_error(book, world, standing, deed), expected)
                    told[expected] = told.get(expected, 0) + 1
                    if expected is None:
                        can.append(deed)
                self.assertEqual(open_deeds(book, world, standing), tuple(sorted(can)))
        self.assertEqual(set(told), {None, "machine", "roads", "rests", "nothing", "said", "turn", "works"})

    def test_how_many_standings_come(self):
        # The document counts them, for two machines and a few letters.
        calm = ((True, ()), (True, ()))
        sums, counts = ((("G2", "S2"),), calm), ((("G1", "G2"), ("S1", "S2")), calm)
        for book, world, works, letters, many in (
                (sums, SLOW, (True, False), 0, 6), (sums, SLOW, (True, False), 2, 103), (sums, SLOW, (True, True), 2, 269),
                (sums, SLOW, (True, False), 3, 414), (counts, SLOW, (True, True), 2, 309),
                (sums, ONCE, (True, False), 3, 107), (((("G1", "S2"),), calm), ONCE, (True, False), 3, 101)):
            self.assertEqual(len(standings_that_come(book, world, works, letters)), many)


def standings_that_come(book, world, works, letters):
    """All standings that come with at most so many letters."""
    found = [start(works)]
    for standing in found:
        sent = sum(site[1] for site in standing[0])
        for deed in open_deeds(book, world, standing):
            if deed[0] != "send" or sent < letters:
                behind = after(book, world, standing, deed)
                if behind not in found:
                    found.append(behind)
    return found


if __name__ == "__main__":
    unittest.main()
