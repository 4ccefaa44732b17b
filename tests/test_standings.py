"""[B1], [B2]: what standings are."""

import unittest
from itertools import product

from stillrounds.standings import standing_error, start
from tests.bookkinds import WORDS, choices
from tests.helpers import CallCase, any_values, is_fixed
from tests.model import random_runs

NO_COUNTS = [-1, -(10 ** 399), True, False, None, "0", "", (), (0,), [0], {}]
NO_BOOLS = [0, 1, None, "no", "True", (), (True,), [], {}, 2]
NO_NOTES = [
    None, True, 0, "got lower", ["got lower"], [], {}, {"got lower": 1}, (None,), ("",), ("got",), ("got lower ",), (0,),
    ("got lower", "got lower"), ("got lower", "got higher"), ("sent lower", "got lower"), ("sent lower", "sent higher"),
    ("got lower", None), (["got lower"],), (("got lower",),), WORDS[::-1], WORDS + WORDS[3:], WORDS[:1] + WORDS,
    ("got lower", "sent lower", "sent higher"), ("got lower", {}), ("got lower", 5),
]
NEW = ((), 0, 0, False)


def with_part(whole, at, part):
    return whole[:at] + (part,) + whole[at + 1:]


def some_standings():
    """Standings that come, behind runs of two to six machines in all four worlds, as the model tells them."""
    return [standing for *_, standings in random_runs(1998, 60, 24) for standing in standings[::6] + standings[-1:]]


class Start(CallCase):
    def test_all_starts(self):
        for many in range(2, 7):
            for works in product((False, True), repeat=many):
                sites = tuple((each, 0, 0, ()) for each in works)
                self.tells((sites, (), ((), 0, 0, False), None, "no"), start, works=works)
                self.assertIsNone(standing_error(many, start(works)))


class StandingError(CallCase):
    def told(self, expected, value, many):
        self.tells(expected, standing_error, many=many, value=value)

    def spoilt(self, expected, value):
        self.told(expected, value, len(value[0]))

    def test_standings_that_come(self):
        for standing in some_standings():
            for many in range(2, 7):
                self.told(None if many == len(standing[0]) else "form", standing, many)

    def test_standings_that_never_come(self):
        sites = ((False, 10 ** 399, 7, ()), (True, 0, 10 ** 399, WORDS), (False, 0, 0, ("got higher", "sent lower")))
        letters = ((0, 1, 10 ** 399), (0, 2, 1), (1, 0, 2), (2, 0, 1), (2, 1, 1))
        for said in ("no", "right", "early"):
            for tour in (((), 5, 7, True), ((2, 0, 1), 0, 0, False), ((1,), 10 ** 399, 0, True)):
                for before in (None, (0, 0), (10 ** 399, 1)):
                    self.told(None, (sites, letters, tour, before, said), 3)
                    self.told(None, (sites, (), tour, before, said), 3)

    def test_form(self):
        for many in range(2, 7):
            whole = start((True,) * many)
            for value in any_values():
                self.told("form", value, many)
                if type(value) is not tuple:
                    self.told("form", with_part(whole, 0, value), many)
            for value in (whole[:4], whole + ("no",), list(whole), (whole,), with_part(whole, 0, list(whole[0])),
                          with_part(whole, 0, whole[0][1:]), with_part(whole, 0, whole[0] + whole[0][:1]), whole[0]):
                self.told("form", value, many)

    def test_sites(self):
        for many in range(2, 7):
            whole = start((True, False) * (many // 2) + (True,) * (many % 2))
            for i in range(many):
                site = whole[0][i]
                wrong = [with_part(site, 0, part) for part in NO_BOOLS]
                wrong += [with_part(site, at, part) for at in (1, 2) for part in NO_COUNTS]
                wrong += [with_part(site, 3, part) for part in NO_NOTES]
                wrong += [site[:3], site + ((),), list(site), site[::-1], (), None, {}, [], (True,), "site", True, 0]
                for part in wrong:
                    self.spoilt(("site", i), with_part(whole, 0, with_part(whole[0], i, part)))

    def test_notes_of_sites(self):
        whole = start((True, False))
        for notes in choices(WORDS):
            site = (False, 3, 4, notes)
            self.spoilt(None, with_part(whole, 0, (site, site)))

    def test_the_first_wrong_site(self):
        for many in range(2, 7):
            whole = start((True,) * many)
            for i in range(many):
                for j in range(i, many):
                    sites = with_part(with_part(whole[0], i, None), j, (True, -1, 0, ()))
                    self.spoilt(("site", i), with_part(whole, 0, sites))

    def test_letters(self):
        for many in range(2, 7):
            whole, last = start((True,) * many), many - 1
            wrong = [
                None, True, 0, "", "none", [], [(0, 1, 1)], {}, {(0, 1, 1): 1}, ((),), (None,), (0, 1, 1), ((0, 1),),
                ((0, 1, 1, 1),), ([0, 1, 1],), ((0, 1, [1]),), ((0, 1, 0),), ((0, 1, -1),), ((0, 1, True),),
                ((0, 1, None),), ((0, 1, "1"),), ((0, 0, 1),), ((last, last, 1),), ((0, many, 1),), ((many, 0, 1),),
                ((-1, 0, 1),), ((0, -1, 1),), ((True, 0, 1),), ((0, True, 1),), ((False, 1, 1),), ((1, False, 1),),
                ((None, 0, 1),), ((0, "1", 1),), ((1, 0, 1), (0, 1, 1)), ((0, 1, 1), (0, 1, 1)), ((0, 1, 1), (0, 1, 2)),
                ((0, 1, 2), (0, 1, 1)), ((0, 1, 1), (1, 0, 1), (0, 1, 2)), ((0, 1, 1), None), ((0, 1, 1), (1, 0)),
                ((0, 1, 1), (1, 1, 1)), ((0, 1, 1), [1, 0, 1]), ((0, 1, 1), ()), ((0, 1, 1), (0, 0, 1)),
            ]
            for letters in wrong:
                self.spoilt("letters", with_part(whole, 1, letters))
            pairs = [(i, j) for i in range(many) for j in range(many) if i != j]
            right = tuple(pair + (at + 1,) for at, pair in enumerate(pairs))
            self.spoilt(None, with_part(whole, 1, right))
            for at in range(len(right)):
                self.spoilt(None, with_part(whole, 1, right[:at] + right[at + 1:]))
                self.spoilt("letters", with_part(whole, 1, right[:at + 1] + right[at:]))
                again = right[at][:2] + (right[at][2] + 1,)
                self.spoilt("letters", with_part(whole, 1, right[:at + 1] + (again,) + right[at + 1:]))
            self.spoilt("letters", with_part(whole, 1, right[::-1]))

    def test_tours(self):
        for many in range(2, 7):
            whole, last = start((True,) * many), many - 1
            wrong = [None, (), NEW[:3], NEW + (False,), list(NEW), NEW[::-1], "", {}, 0, True, ((),)]
            orders = [
                None, 0, "", "0", [], [0], {}, {0: 1}, (many,), (-1,), (0, 0), (last, 0, last), (True,), (False,),
                (None,), ("0",), ((0,),), ([0],), (0, True), (0, many), tuple(range(many)) + (0,), (0, None), (0, []),
            ]
            wrong += [with_part(NEW, 0, part) for part in orders]
            wrong += [with_part(NEW, at, part) for at in (1, 2) for part in NO_COUNTS]
            wrong += [with_part(NEW, 3, part) for part in NO_BOOLS]
            for tour in wrong:
                self.spoilt("tour", with_part(whole, 2, tour))
            for order in (tuple(range(many)), tuple(range(many))[::-1], (last,), (last, 0), ()):
                self.spoilt(None, with_part(whole, 2, (order, 3, 10 ** 399, True)))

    def test_before(self):
        whole = start((True, False))
        wrong = [True, False, 0, "", "no", (), (0,), (0, 0, 0), [0, 0], [], {}, {0: 0}, (None, None), ((0, 0),)]
        wrong += [(part, 0) for part in NO_COUNTS] + [(0, part) for part in NO_COUNTS]
        for before in wrong:
            self.spoilt("before", with_part(whole, 3, before))
        for before in (None, (0, 0), (3, 1), (1, 3), (10 ** 399, 0)):
            self.spoilt(None, with_part(whole, 3, before))

    def test_said(self):
        whole = start((True, False))
        for said in any_values() + ["No", "no ", "yes", "late", "noright", ("no",), ["no"], {"no": "no"}]:
            self.spoilt("said", with_part(whole, 4, said))
        for said in ("no", "right", "early"):
            self.spoilt(None, with_part(whole, 4, said))

    def test_parts_of_all_kinds(self):
        words = {1: "letters", 2: "tour", 3: "before", 4: "said"}
        for standing in some_standings()[::12]:
            for value in any_values():
                for at, word in words.items():
                    fits = (at == 1 and value == ()) or (at == 3 and value is None) or (at == 3 and value == (0, 0))
                    self.spoilt(None if fits else word, with_part(standing, at, value))
                for i in range(len(standing[0])):
                    self.spoilt(("site", i), with_part(standing, 0, with_part(standing[0], i, value)))

    def test_of_several_faults_the_first_one_told(self):
        faults = [
            (0, ((True, 0, 0, ()), None, (True, 0, -1, ())), ("site", 1)), (1, ((0, 0, 1),), "letters"),
            (2, ((0, 0), 0, 0, False), "tour"), (3, (0, -1), "before"), (4, "perhaps", "said"),
        ]
        for first in range(5):
            for second in range(first, 5):
                whole = start((True, True, False))
                for at in (second, first):
                    whole = with_part(whole, faults[at][0], faults[at][1])
                self.spoilt(faults[first][2], whole)
                self.told("form", whole + (None,), 3)
                self.told("form", whole, 4)

    def test_standings_with_parts_turned_about(self):
        for standing in some_standings()[::7]:
            self.assertTrue(is_fixed(standing))
            many = len(standing[0])
            self.told("form", standing[::-1], many)
            self.told("tour", with_part(with_part(standing, 2, standing[3]), 3, standing[2]), many)
            sent_late = (standing[0][0][0], standing[0][0][1], standing[0][0][3], standing[0][0][2])
            self.told(("site", 0), with_part(standing, 0, with_part(standing[0], 0, sent_late)), many)


if __name__ == "__main__":
    unittest.main()
