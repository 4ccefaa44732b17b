"""[G1], [G2], [G3], [G5]: lists of letters, when machines are woken, which lists come, their sums."""

import random
import unittest
from itertools import permutations

from stillrounds.epochruns import run_of
from stillrounds.epochs import comes, list_error, sums_of, woken
from stillrounds.rounds import rounds_of
from tests.helpers import CallCase, any_values
from tests.lists import (
    epoch_at, gaps_of, greatest_solution, is_solution, letters_of, lists_of, lists_that_come, lively_list, plain_book,
    random_list, sums_told, woken_told,
)

SLOW = ("slow", "alike")


def is_letter_told(many, value):
    if type(value) is not tuple or len(value) != 4 or any(type(each) is not int for each in value):
        return False
    i, x, j, y = value
    return i in range(many) and j in range(many) and i != j and x in (0, 1, 2) and y in (0, 1, 2, 3)


def list_error_told(many, value):
    if type(value) is not tuple:
        return "form"
    if len(value) > 12:
        return "long"
    wrong = [k for k, letter in enumerate(value) if not is_letter_told(many, letter)]
    if wrong:
        return ("letter", wrong[0])
    return None if list(value) == sorted(value) else "order"


class ListError(CallCase):
    def told(self, expected, many, value):
        self.assertEqual(repr(list_error_told(many, value)), repr(expected))
        self.tells(expected, list_error, many=many, value=value)

    def judged(self, many, value):
        self.assertEqual(repr(list_error(many, value)), repr(list_error_told(many, value)), (many, value))

    def test_all_letters_and_near_ones(self):
        odd = [None, "0", 0.0, True, False, -1, 3, 4, 6, 7, (0,), 10 ** 399]
        for many in range(2, 7):
            right = set(letters_of(many))
            self.assertEqual(len(right), many * (many - 1) * 12)
            for i in range(-1, 8):
                for x in range(-1, 5):
                    for j in range(-1, 8):
                        for y in range(-1, 6):
                            error = None if (i, x, j, y) in right else ("letter", 0)
                            self.assertEqual(list_error(many, ((i, x, j, y),)), error)
            for at in range(4):
                for value in odd:
                    letter = (1, 2, 0, 3)[:at] + (value,) + (1, 2, 0, 3)[at + 1:]
                    self.judged(many, (letter,))
                    self.judged(many, ((0, 0, 1, 0), letter))

    def test_bools_are_no_integers(self):
        for letter in ((True, 0, 0, 0), (1, True, 0, 1), (1, 0, False, 0), (1, 0, 0, True), (False, 0, 1, 0)):
            self.told(("letter", 0), 2, (letter,))

    def test_letters_of_other_shapes(self):
        for letter in ([0, 0, 1, 1], (0, 0, 1), (0, 0, 1, 1, 0), (), "0011", None, ((0, 0), (1, 1)), {0: 1}, 0):
            for many in (2, 6):
                self.told(("letter", 0), many, (letter,))
                self.told(("letter", 1), many, ((0, 0, 1, 1), letter))

    def test_values_of_all_kinds(self):
        for many in range(2, 7):
            for value in any_values():
                expected = list_error_told(many, value)
                if type(value) is not tuple:
                    self.assertEqual(expected, "form")
                self.told(expected, many, value)
                self.judged(many, ((0, 0, 1, 1), value))
                self.judged(many, (value,) * 12)
                self.judged(many, (value,) * 13)

    def test_none_to_thirteen(self):
        draw = random.Random(71)
        for many in range(2, 7):
            for length in range(15):
                some = random_list(draw, many, length)
                self.told("long" if length > 12 else None, many, some)
                self.told("form", many, list(some))
                self.judged(many, some[::-1])
            self.told(None, many, ((1, 2, 0, 3),) * 12)
            self.told("long", many, ((1, 2, 0, 3),) * 13)

    def test_long_ones_with_wrong_letters(self):
        some = ((0, 0, 1, 1),) * 13
        for wrong in (None, (0, 0, 0, 0), (9, 9, 9, 9), [0, 0, 1, 1]):
            for at in (0, 5, 12):
                self.told("long", 2, some[:at] + (wrong,) + some[at + 1:])
            for at in (0, 5, 11):
                self.told(("letter", at), 2, some[:at] + (wrong,) + some[at + 2:])

    def test_two_faults_at_once(self):
        for wrong in (None, (0, 0, 0, 0), (1, 0, 0, 4), (2, 0, 0, 0)):
            self.told(("letter", 1), 2, ((1, 0, 0, 0), wrong, (0, 0, 1, 0)))
            self.told(("letter", 2), 2, ((1, 0, 0, 0), (0, 0, 1, 0), wrong, wrong))
            self.told(("letter", 0), 2, (wrong, (1, 0, 0, 0), (0, 0, 1, 0)))

    def test_order(self):
        ascending = tuple(letters_of(3)[::7])[:10]
        self.told(None, 3, ascending)
        for at in range(9):
            self.told("order", 3, ascending[:at] + ascending[at:at + 2][::-1] + ascending[at + 2:])
            self.told(None, 3, ascending[:at] + (ascending[at],) + ascending[at:])
        for one, other in permutations(letters_of(2), 2):
            self.judged(2, (one, other))

    def test_random_ones(self):
        draw, kinds = random.Random(72), {}
        for _ in range(4000):
            many = draw.randint(2, 6)
            letters = letters_of(draw.randint(2, 6)) if draw.random() < 0.3 else letters_of(many)
            some = list(random_list(draw, many, draw.randint(0, 13), letters))
            if draw.random() < 0.3:
                draw.shuffle(some)
            self.judged(many, tuple(some))
            error = list_error_told(many, tuple(some))
            kinds[error if type(error) is str or error is None else error[0]] = True
        self.assertEqual(set(kinds), {None, "long", "letter", "order"})


class Woken(CallCase):
    def told(self, many, some):
        expected = woken_told(many, some)
        self.tells(expected, woken, many=many, some=some)
        return expected

    def agrees(self, many, some):
        self.assertEqual(repr(woken(many, some)), repr(woken_told(many, some)), (many, some))

    def test_small_lists(self):
        for some in lists_of(2, 3):
            self.agrees(2, some)
        for some in lists_of(3, 2):
            self.agrees(3, some)

    def test_the_greatest_solution(self):
        draw = random.Random(73)
        for _ in range(300):
            some = lively_list(draw, 2, draw.randint(0, 8))
            self.assertEqual(woken(2, some), greatest_solution(2, some), some)
        for _ in range(30):
            some = lively_list(draw, 3, draw.randint(4, 10))
            self.assertEqual(woken(3, some), greatest_solution(3, some), some)

    def test_round_about(self):
        # Each wakes the next one, the last one the first one: nobody is woken.
        for many in range(2, 7):
            ring = tuple(sorted((i, 1, (i + 1) % many, 1) for i in range(many)))
            self.told(many, ring)
            self.assertEqual(woken(many, ring), ((0, None, None),) * many)
            late = tuple(sorted((i, 2, (i + 1) % many, 2) for i in range(many)))
            self.assertEqual(self.told(many, late), ((0, None, None),) * many)
            for first in range(many):
                # One is woken from elsewhere: so are all behind it, no later than it.
                begun = tuple(sorted(ring + (((first + 1) % many, 0, first, 1),)))
                told = self.told(many, begun)
                self.assertTrue(all(triple[1] is not None for triple in told))
                self.assertTrue(all(triple[1] >= first + 1 for triple in told))

    def test_by_one_letter(self):
        for many in range(2, 7):
            for letter in letters_of(many):
                i, x, j, y = letter
                told = self.told(many, (letter,)) if many < 4 else woken(many, (letter,))
                for machine in range(many):
                    expected = [0, None, None]
                    if machine == j and x == 0 and y in (1, 2):
                        expected[y] = gaps_of(many, j, y)[0]
                    self.assertEqual(told[machine], tuple(expected))

    def test_the_last_gap_of_an_epoch(self):
        # The machine 0 in its epoch 2 can wake all others in their epoch 1, until its last gap; nobody can wake back.
        for many in range(2, 7):
            for i in range(many):
                for j in range(many):
                    if i != j:
                        some = tuple(sorted(((j, 0, i, 2), (i, 2, j, 1))))
                        told = woken(many, some)
                        self.assertEqual(told, woken_told(many, some))
                        self.assertEqual(told[j][1], many + i + 1 if i < j else None)

    def test_random_lists(self):
        draw, woken_ones = random.Random(74), {}
        for at in range(4000):
            many = 2 + at % 5
            length = draw.randint(0, 12)
            some = lively_list(draw, many, length) if at % 2 else random_list(draw, many, length)
            self.agrees(many, some)
            told = woken(many, some)
            self.assertTrue(is_solution(many, some, told))
            for i, triple in enumerate(told):
                self.assertEqual(triple[0], 0)
                for epoch in (1, 2):
                    if triple[epoch] is not None:
                        self.assertEqual(epoch_at(many, i, triple[epoch]), epoch)
                    woken_ones[(many, epoch, triple[epoch])] = True
        # Beyond the first gap of the epoch, too.
        for many in range(2, 7):
            self.assertTrue({(many, 1, gap) for gap in range(1, many + 2)} < set(woken_ones))
            self.assertTrue({(many, 2, gap) for gap in range(many + 1, 2 * many)} < set(woken_ones))
        for at in range(40):
            self.told(2 + at % 5, lively_list(draw, 2 + at % 5, 12))


class Comes(CallCase):
    def test_small_lists_against_all_runs(self):
        for many, most in ((2, 4), (3, 3), (4, 2)):
            come = lists_that_come(many, most)
            self.assertTrue(all(len(some) <= most for some in come))
            for some in lists_of(many, most):
                self.assertIs(comes(many, some), some in come, (many, some))

    def test_by_place_and_by_name(self):
        draw, told = random.Random(75), {}
        for at in range(200):
            many = 2 + at % 5
            some = lively_list(draw, many, draw.randint(0, 5))
            expected = run_of(many, some) is not None
            self.tells(expected, comes, many=many, some=some)
            told[(many, expected)] = True
        self.assertEqual(len(told), 10)

    def test_by_when_machines_are_woken(self):
        """[G5] just as it is told."""
        draw, told = random.Random(76), {}
        for at in range(6000):
            many = 2 + at % 5
            some = lively_list(draw, many, draw.randint(0, 12 if at % 3 else 4))
            gaps = woken_told(many, some)
            expected = True
            for i, x, j, y in some:
                if gaps[i][x] is None or (y < 3 and max(gaps[i][x], gaps_of(many, j, y)[0]) > gaps_of(many, j, y)[-1]):
                    expected = False
            self.assertIs(comes(many, some), expected, (many, some))
            told[(many, len(some) > 8, expected)] = True
        self.assertEqual(len(told), 20)

    def test_no_letters(self):
        for many in range(2, 7):
            self.tells(True, comes, many=many, some=())

    def test_twelve_letters(self):
        for many in range(2, 7):
            self.tells(True, comes, many=many, some=((0, 0, 1, 1),) * 12)
            self.tells(False, comes, many=many, some=((0, 0, 1, 1),) * 11 + ((1, 2, 0, 0),))
            self.tells(True, comes, many=many, some=((0, 0, 1, 1),) * 11 + ((1, 1, 0, 2),))

    def test_into_an_earlier_epoch(self):
        # Only from a lower machine to a higher one, by one epoch, and by who was woken.
        for many in range(2, 7):
            for i in range(many):
                for j in range(many):
                    if i != j:
                        wakes = {1: (j, 0, i, 1), 2: (j, 0, i, 2)}
                        for x, y in ((1, 0), (2, 1), (2, 0)):
                            some = tuple(sorted((wakes[x], (i, x, j, y))))
                            self.assertIs(comes(many, some), i < j and x == y + 1, some)
                            self.assertIs(comes(many, ((i, x, j, y),)), False)


class SumsOf(CallCase):
    def test_all_small_lists(self):
        for some in lists_of(2, 3):
            self.assertEqual(repr(sums_of(2, some)), repr(sums_told(some)))

    def test_against_the_rounds_of_a_run(self):
        draw, did_come = random.Random(77), 0
        for at in range(1500):
            many = 2 + at % 5
            some = lively_list(draw, many, draw.randint(0, 12 if at % 3 == 0 else 6))
            run = run_of(many, some)
            if run is None:
                self.assertEqual(repr(sums_of(many, some)), repr(sums_told(some)))
                continue
            did_come += 1
            first, second = rounds_of(plain_book(many), SLOW, *run)
            self.assertEqual(sums_of(many, some), first[1:3] + second[1:3])
        self.assertGreater(did_come, 300)

    def test_by_place_and_by_name(self):
        draw = random.Random(78)
        for at in range(60):
            some = random_list(draw, 2 + at % 5, at % 13)
            self.tells(sums_told(some), sums_of, many=2 + at % 5, some=some)

    def test_each_kind_of_letter(self):
        wanted = {
            (0, 0): (1, 1, 1, 1), (0, 1): (1, 0, 1, 1), (0, 2): (1, 0, 1, 0), (0, 3): (1, 0, 1, 0),
            (1, 0): (0, 1, 1, 1), (1, 1): (0, 0, 1, 1), (1, 2): (0, 0, 1, 0), (1, 3): (0, 0, 1, 0),
            (2, 0): (0, 1, 0, 1), (2, 1): (0, 0, 0, 1), (2, 2): (0, 0, 0, 0), (2, 3): (0, 0, 0, 0),
        }
        for (x, y), sums in wanted.items():
            for many in range(2, 7):
                self.tells(sums, sums_of, many=many, some=((many - 1, x, 0, y),))
                self.tells(tuple(12 * each for each in sums), sums_of, many=many, some=((0, x, 1, y),) * 12)


class Holds(unittest.TestCase):
    def test_letters_uncrossed_come_too(self):
        draw, crossed = random.Random(79), 0
        lists = list(lists_that_come(2, 4)) + list(lists_that_come(3, 3))
        for _ in range(3000):
            many = draw.randint(2, 4)
            some = lively_list(draw, many, draw.randint(2, 10))
            if comes(many, some):
                lists.append(some)
        for some in lists:
            many = 1 + max([1] + [max(i, j) for i, _, j, _ in some])
            for a in range(len(some)):
                for b in range(len(some)):
                    (i, x, j, y), (k, u, m, v) = some[a], some[b]
                    if (i, j) == (k, m) and x < u and y > v:
                        crossed += 1
                        others = [letter for at, letter in enumerate(some) if at not in (a, b)]
                        exchanged = tuple(sorted(others + [(i, x, j, v), (i, u, j, y)]))
                        self.assertTrue(comes(many, exchanged), (some, exchanged))
        self.assertGreater(crossed, 200)


if __name__ == "__main__":
    unittest.main()
