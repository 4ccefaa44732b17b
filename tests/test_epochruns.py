"""[G1], [G4], [G5]: runs that have a list of letters, and the list that a run has."""

import random
import unittest

from stillrounds.epochruns import list_of, run_of
from stillrounds.epochs import comes, list_error, sums_of
from stillrounds.rounds import rounds_of
from stillrounds.runtexts import read_run, run_text
from tests.courses import course_of
from tests.helpers import CallCase, is_fixed
from tests.lists import (
    double_runs, has_list, letters_of, lists_of, lists_that_come, lively_list, plain_book, random_list, sums_told,
    woken_told,
)

SLOW = ("slow", "alike")


def list_told(many, deeds):
    """The list of a run: of the letters from one machine to another the k-th one sent is the k-th one got."""
    sent, got = {}, {}
    for at, deed in enumerate(deeds):
        if deed[0] in ("send", "get"):
            machine = deed[1] if deed[0] == "send" else deed[2]
            epoch = deeds[:at].count(("visit", machine))
            (sent if deed[0] == "send" else got).setdefault(deed[1:], []).append(epoch)
    found = []
    for pair, epochs in sent.items():
        ends = got.get(pair, [])
        ends = ends + [3] * (len(epochs) - len(ends))
        found += [(pair[0], x, pair[1], y) for x, y in zip(epochs, ends)]
    return tuple(sorted(found))


class RunOf(CallCase):
    def is_right(self, many, some, run):
        """The run can be done, has two rounds, and the list."""
        self.assertTrue(is_fixed(run))
        works, deeds = run
        self.assertEqual((len(works), {type(each) for each in works}), (many, {bool}))
        course, place = course_of(plain_book(many), SLOW, works, deeds)
        self.assertIsNone(place)
        self.assertLessEqual(len(deeds), 400)
        visits = [deed for deed in deeds if deed[0] == "visit"]
        self.assertEqual(visits, [("visit", i) for i in range(many)] * 2)
        self.assertNotEqual(course.said, "no")
        self.assertEqual(sum(course.sent), len(some))
        self.assertTrue(has_list(many, deeds, some), (many, some, run))

    def judged(self, many, some, come):
        run = run_of(many, some)
        if come:
            self.is_right(many, some, run)
        else:
            self.assertIsNone(run, (many, some))

    def test_small_lists_against_all_runs(self):
        for many, most in ((2, 4), (3, 3)):
            come = lists_that_come(many, most)
            for some in come:
                self.judged(many, some, True)
            for some in lists_of(many, most - 1):
                self.judged(many, some, some in come)

    def test_lists_of_up_to_twelve_letters(self):
        draw, told = random.Random(81), {}
        for at in range(2500):
            many = 2 + at % 5
            length = draw.randint(0, 12)
            some = lively_list(draw, many, length) if at % 4 else random_list(draw, many, length // 3)
            come = comes(many, some)
            self.judged(many, some, come)
            told[(many, length, come)] = True
        self.assertTrue(all((many, length, True) in told for many in range(2, 7) for length in range(13)))

    def test_lists_that_come_letter_by_letter(self):
        # Long lists that come, from letters that are added one by one as long as the list still comes.
        draw, lengths = random.Random(82), {}
        for at in range(300):
            many, some = 2 + at % 5, ()
            for _ in range(40):
                gaps = woken_told(many, some)
                i, x = draw.choice([(i, x) for i in range(many) for x in (0, 1, 1, 2, 2) if gaps[i][x] is not None])
                j = draw.choice([j for j in range(many) if j != i])
                longer = tuple(sorted(some + ((i, x, j, draw.randint(0, 3)),)))
                if len(some) < 12 and comes(many, longer):
                    some = longer
            self.judged(many, some, True)
            lengths[(many, len(some))] = True
        self.assertTrue(all((many, 12) in lengths for many in range(2, 7)))

    def test_chains_through_all_machines(self):
        # Each machine wakes the next lower one, all in the epochs 1, then in the epochs 2.
        some = tuple(sorted(
            [(0, 0, 5, 1)] + [(i, 1, i - 1, 1) for i in range(1, 6)] + [(0, 1, 5, 2)]
            + [(i, 2, i - 1, 2) for i in range(1, 6)]))
        self.assertEqual(len(some), 12)
        self.judged(6, some, True)
        self.judged(6, tuple(letter for letter in some if letter != (0, 0, 5, 1)), False)
        upwards = tuple(sorted(
            [(5, 0, 0, 1)] + [(i, 1, i + 1, 0) for i in range(1)] + [(5, 0, i, 1) for i in range(1, 5)]
            + [(i, 1, i + 1, 0) for i in range(1, 5)] + [(5, 0, 0, 2), (0, 2, 5, 1)]))
        self.judged(6, upwards, True)

    def test_letters_matched_otherwise(self):
        crossed = ((0, 0, 1, 2), (0, 1, 1, 1), (1, 0, 0, 1))
        self.judged(2, crossed, True)
        self.assertNotEqual(list_of(2, *run_of(2, crossed)), crossed)
        many_ways = tuple(sorted(((0, 0, 1, 1), (0, 0, 1, 2), (0, 0, 1, 3), (0, 1, 1, 1), (0, 1, 1, 3), (0, 2, 1, 2),
                                  (1, 0, 0, 1), (1, 0, 0, 2))))
        self.judged(2, many_ways, True)

    def test_by_place_and_by_name(self):
        draw = random.Random(83)
        for at in range(60):
            many = 2 + at % 5
            some = lively_list(draw, many, draw.randint(0, 5))
            first = self.outcome_of(run_of, {"many": many, "some": some})
            self.assertEqual(first, repr(run_of(many, some)))
        self.tells(None, run_of, many=2, some=((0, 1, 1, 1),))
        self.tells(None, run_of, many=6, some=((5, 2, 0, 0),))

    def test_texts_of_runs(self):
        draw = random.Random(84)
        for at in range(100):
            run = run_of(2 + at % 5, ((0, 0, 1, draw.randint(0, 3)),) * 12)
            self.assertEqual(read_run(run_text(*run)), run)


class ListOf(CallCase):
    def test_many_runs(self):
        epochs, under_way = {}, 0
        for many, works, deeds in double_runs(85, 600):
            expected = list_told(many, deeds)
            self.assertEqual(repr(list_of(many, works, deeds)), repr(expected))
            self.assertIsNone(list_error(many, expected))
            for _, x, _, y in expected:
                epochs[(x, y)] = epochs.get((x, y), 0) + 1
            under_way += any(letter[3] == 3 for letter in expected)
        self.assertEqual(set(epochs), {(x, y) for x in range(3) for y in range(4)} - {(2, 0)})
        self.assertGreater(under_way, 40)

    def test_by_place_and_by_name(self):
        for many, works, deeds in double_runs(86, 40):
            self.tells(list_told(many, deeds), list_of, many=many, works=works, deeds=deeds)

    def test_the_letter_sent_first_is_got_first(self):
        deeds = (("send", 0, 1), ("rest", 0), ("visit", 0), ("visit", 1), ("get", 0, 1), ("send", 1, 0), ("rest", 1))
        self.tells(((0, 0, 1, 1), (1, 1, 0, 3)), list_of, many=2, works=(True, False),
                   deeds=deeds + (("visit", 0), ("visit", 1)))
        more = deeds[:3] + (("visit", 1), ("visit", 0), ("visit", 1))
        self.tells(((0, 0, 1, 3),), list_of, many=2, works=(True, False), deeds=more)
        self.tells(((0, 0, 1, 2),), list_of, many=2, works=(True, False), deeds=more + (("get", 0, 1),))
        # Two letters of unlike epochs are under way; one is got: it is the first one.
        two = (("send", 0, 1), ("send", 1, 0), ("rest", 0), ("rest", 1), ("visit", 0), ("get", 1, 0), ("send", 0, 1),
               ("rest", 0), ("visit", 1), ("get", 0, 1), ("rest", 1), ("visit", 0), ("visit", 1))
        self.tells(((0, 0, 1, 1), (0, 1, 1, 3), (1, 0, 0, 1)), list_of, many=2, works=(True, True), deeds=two)
        self.tells(((0, 0, 1, 1), (0, 1, 1, 2), (1, 0, 0, 1)), list_of, many=2, works=(True, True),
                   deeds=two + (("get", 0, 1),))

    def test_runs_without_letters(self):
        for many in range(2, 7):
            visits = tuple(("visit", i) for i in range(many)) * 2
            self.tells((), list_of, many=many, works=(False,) * many, deeds=visits)
            rests = tuple(("rest", i) for i in range(many))
            self.tells((), list_of, many=many, works=(True,) * many, deeds=rests + visits)

    def test_twelve_letters_alike(self):
        for many in range(2, 7):
            visits = tuple(("visit", i) for i in range(many)) * 2
            deeds = (("send", 0, 1),) * 12 + (("rest", 0),) + visits + (("get", 0, 1),) * 5
            self.tells(((0, 0, 1, 2),) * 5 + ((0, 0, 1, 3),) * 7, list_of, many=many,
                       works=(True,) + (False,) * (many - 1), deeds=deeds)


class Holds(unittest.TestCase):
    def test_lists_of_runs_come(self):
        for many, works, deeds in double_runs(87, 500):
            some = list_of(many, works, deeds)
            self.assertTrue(comes(many, some))
            self.assertTrue(has_list(many, deeds, some))
            first, second = rounds_of(plain_book(many), SLOW, works, deeds)
            self.assertEqual(sums_of(many, some), first[1:3] + second[1:3])
            self.assertEqual(sums_told(some), first[1:3] + second[1:3])
            run = run_of(many, some)
            self.assertEqual(list_of(many, *run), some)

    def test_the_list_of_the_run_of_a_list(self):
        # It need not be that list, but one with as many letters from each epoch and to each epoch, and uncrossed.
        for many, most in ((2, 4), (3, 3)):
            for some in lists_that_come(many, most):
                other = list_of(many, *run_of(many, some))
                self.assertEqual(sorted(letter[:3] for letter in other), sorted(letter[:3] for letter in some))
                self.assertEqual(sorted((i, j, y) for i, _, j, y in other), sorted((i, j, y) for i, _, j, y in some))
                self.assertEqual(sums_of(many, other), sums_of(many, some))

    def test_the_judge_of_lists_sees_what_is_wrong(self):
        deeds = (("send", 0, 1), ("rest", 0), ("visit", 0), ("visit", 1), ("get", 0, 1), ("rest", 1), ("visit", 0),
                 ("visit", 1))
        self.assertTrue(has_list(2, deeds, ((0, 0, 1, 1),)))
        for letter in letters_of(2):
            self.assertIs(has_list(2, deeds, (letter,)), letter == (0, 0, 1, 1))
        self.assertFalse(has_list(2, deeds, ()))
        self.assertFalse(has_list(2, deeds, ((0, 0, 1, 1), (0, 0, 1, 1))))


if __name__ == "__main__":
    unittest.main()
