"""[I1] to [I5]: what a rounder carries and keeps, which forms suffice, pairs that confuse it."""

import random
import unittest
from fractions import Fraction
from itertools import combinations, product

from stillrounds.carrying import carried, confusing, confusing_error, kept, suffices, told_apart
from tests.bookkinds import LOTS
from tests.helpers import CallCase, any_values, is_fixed

FORMS = {"got": (1, 0), "sent": (0, 1), "difference": (1, -1)}
QUADRUPLES = list(product(range(4), repeat=4))


def holds(tests, quadruple):
    named = dict(zip(("S1", "G1", "S2", "G2"), quadruple))
    return all(named[one] == named[other] for one, other in tests)


def worths(forms, quadruple):
    """What the forms come to in the first round, and in the second one."""
    s1, g1, s2, g2 = quadruple
    return tuple(a * g1 + b * s1 for a, b in forms), tuple(a * g2 + b * s2 for a, b in forms)


def confused_among(tests, forms, quadruples):
    """Whether some two of the quadruples are a confusing pair."""
    told = {}
    for quadruple in quadruples:
        told.setdefault(worths(forms, quadruple), set()).add(holds(tests, quadruple))
    return any(len(each) == 2 for each in told.values())


def rank(rows):
    """How many of the rows are independent, by fractions."""
    rows, found = [[Fraction(each) for each in row] for row in rows], 0
    for column in range(2):
        pivot = next((row for row in rows[found:] if row[column] != 0), None)
        if pivot is not None:
            rows.remove(pivot)
            rows.insert(found, pivot)
            for at in range(found + 1, len(rows)):
                share = rows[at][column] / pivot[column]
                rows[at] = [one - share * other for one, other in zip(rows[at], pivot)]
            found += 1
    return found


def asked_told(tests):
    asks = {
        ("G2", "S2"): ["difference"], ("G1", "S1"): ["difference"], ("G1", "G2"): ["got"], ("S1", "S2"): ["sent"],
        ("G1", "S2"): ["got", "sent"], ("G2", "S1"): ["got", "sent"],
    }
    return [FORMS[word] for test in tests for word in asks[test]]


def suffices_told(tests, forms):
    return all(rank(list(forms) + [form]) == rank(forms) for form in asked_told(tests))


def classes_of(tests):
    """Which of the four sums tests make one number."""
    names = {name: name for name in ("S1", "G1", "S2", "G2")}
    for one, other in tests:
        old, new = names[one], names[other]
        names = {name: new if told == old else told for name, told in names.items()}
    return names


def kept_told(tests):
    names = classes_of(tests)
    asks = names["S1"] == names["G1"]
    later = (names["S2"], names["G2"])
    words = tuple(word for word, name in (("got", "G1"), ("sent", "S1")) if names[name] in later)
    return asks, (words[:1] if asks else words)


def apart_told(tests, one, other):
    """Whether the sums are told apart, as the document tells it of what is kept."""
    asks, words = kept_told(tests)
    if not asks:
        return any(one[at] != other[at] for at, word in ((0, "sent"), (1, "got")) if word in words)
    if one[0] == one[1] and other[0] == other[1]:
        return words == ("got",) and one != other
    return (one[0] == one[1]) != (other[0] == other[1])


def error_told(tests, forms, value):
    if type(value) is not tuple or len(value) != 2:
        return "form"
    for quadruple in value:
        if type(quadruple) is not tuple or len(quadruple) != 4:
            return "form"
        if any(type(each) is not int or not 0 <= each <= 10 ** 6 for each in quadruple):
            return "form"
    one, other = (worths(forms, quadruple) for quadruple in value)
    for at, word in ((0, "before"), (1, "now")):
        for k in range(len(forms)):
            if one[at][k] != other[at][k]:
                return (word, k)
    return "alike" if holds(tests, value[0]) == holds(tests, value[1]) else None


def random_forms(draw):
    """At most four forms, with multiples and noughts among them."""
    if draw.random() < 0.1:
        return ((0, 0),) * draw.randint(0, 4)
    forms = []
    for _ in range(draw.randint(0, 4)):
        kind = draw.random()
        if kind < 0.25:
            forms.append(draw.choice(((0, 0), (1, -1), (1, 0), (0, 1), (-1, 1), (3, -3), (0, -9), (9, 0))))
        elif kind < 0.6 and forms:
            a, b = draw.choice(forms)
            forms.append(draw.choice(((-a, -b), (a, b), (2 * a, 2 * b) if max(abs(a), abs(b)) < 5 else (a, b))))
        else:
            forms.append((draw.randint(-9, 9), draw.randint(-9, 9)))
    return tuple(forms)


class Carried(CallCase):
    def test_all_lots_of_tests(self):
        told = {}
        for tests in LOTS:
            asked = set(asked_told(tests))
            if not asked:
                expected = ()
            elif len(asked) == 1:
                expected = tuple(word for word, form in FORMS.items() if form in asked)
            else:
                expected = ("got", "sent")
            self.tells(expected, carried, tests=tests)
            told[expected] = True
        self.assertEqual(set(told), {(), ("difference",), ("got",), ("sent",), ("got", "sent")})

    def test_what_it_tells_is_enough_and_nothing_less_is(self):
        for tests in LOTS:
            words = carried(tests)
            self.assertFalse(confused_among(tests, [FORMS[word] for word in words], QUADRUPLES), tests)
            self.assertTrue(suffices(tests, tuple(FORMS[word] for word in words)))
            self.assertEqual(len(words), rank(asked_told(tests)))
            small = [(a, b) for a in range(-2, 3) for b in range(-2, 3)]
            for forms in product(small, repeat=len(words) - 1) if words else ():
                self.assertTrue(confused_among(tests, forms, QUADRUPLES), (tests, forms))
                self.assertFalse(suffices(tests, forms))


class Kept(CallCase):
    def test_all_lots_of_tests(self):
        told = {}
        for tests in LOTS:
            self.tells(kept_told(tests), kept, tests=tests)
            told[kept(tests)] = True
        words = ((), ("got",), ("sent",), ("got", "sent"))
        self.assertEqual(set(told), {(False, each) for each in words} | {(True, ()), (True, ("got",))})

    def test_by_which_first_sums_are_told_apart(self):
        """Two first sums are as one if no second ones tell them apart; numbers up to 3 are enough to see that."""
        sums = list(product(range(4), repeat=2))
        for tests in LOTS:
            asks, words = kept(tests)
            kinds = {one: tuple(holds(tests, one + now) for now in sums) for one in sums}
            for one, other in combinations(sums, 2):
                if not asks:
                    same = all(one[at] == other[at] for at, word in ((0, "sent"), (1, "got")) if word in words)
                elif one[0] != one[1] or other[0] != other[1]:
                    same = one[0] != one[1] and other[0] != other[1]
                else:
                    same = words == ()
                self.assertIs(kinds[one] == kinds[other], same, (tests, one, other))


class Suffices(CallCase):
    def test_forms_of_all_kinds(self):
        draw, told = random.Random(111), {}
        for _ in range(400):
            forms = random_forms(draw)
            for tests in LOTS:
                expected = suffices_told(tests, forms)
                self.assertIs(suffices(tests, forms), expected, (tests, forms))
                told[(len(forms), rank(forms), expected)] = True
        self.assertEqual({each[:2] for each in told}, {
            (many, worth) for many in range(5) for worth in range(3) if worth <= many})
        self.assertTrue(all((many, 1, expected) in told for many in range(1, 5) for expected in (True, False)))

    def test_all_single_forms(self):
        for form in product(range(-9, 10), repeat=2):
            for tests in LOTS:
                self.assertIs(suffices(tests, (form,)), suffices_told(tests, (form,)))

    def test_against_all_small_quadruples(self):
        small = [(a, b) for a in range(-1, 3) for b in range(-1, 3)]
        for tests in LOTS:
            for forms in [()] + [(form,) for form in small] + list(combinations(small, 2))[::7]:
                self.assertIs(suffices(tests, tuple(forms)), not confused_among(tests, forms, QUADRUPLES))

    def test_by_place_and_by_name(self):
        draw = random.Random(112)
        for tests in LOTS:
            forms = random_forms(draw)
            self.tells(suffices_told(tests, forms), suffices, tests=tests, forms=forms)

    def test_noughts_and_multiples(self):
        for tests in LOTS:
            for forms in ((), ((0, 0),), ((0, 0),) * 4):
                self.tells(tests == (), suffices, tests=tests, forms=forms)
            self.tells(True, suffices, tests=tests, forms=((9, 8), (8, 7)))
            self.tells(True, suffices, tests=tests, forms=((0, 0), (-9, 9), (0, 0), (0, 9)))
            alone = tests in ((), (("G2", "S2"),), (("G1", "S1"),), (("G1", "S1"), ("G2", "S2")))
            for forms in (((1, -1),), ((-9, 9),), ((3, -3), (0, 0), (-2, 2), (1, -1))):
                self.tells(alone, suffices, tests=tests, forms=forms)


class Confusing(CallCase):
    def judged(self, tests, forms):
        pair = confusing(tests, forms)
        self.assertTrue(is_fixed(pair))
        if suffices_told(tests, forms):
            self.assertIsNone(pair)
        else:
            self.assertIsNone(error_told(tests, forms, pair), (tests, forms, pair))
            self.assertIsNone(confusing_error(tests, forms, pair))
        return pair is None

    def test_forms_of_all_kinds(self):
        draw, told = random.Random(113), {}
        for _ in range(400):
            forms = random_forms(draw)
            for tests in LOTS:
                told[(len(forms), self.judged(tests, forms))] = True
        self.assertEqual(len(told), 10)

    def test_all_single_forms(self):
        for form in product(range(-9, 10), repeat=2):
            for tests in LOTS:
                self.judged(tests, (form,))

    def test_by_place_and_by_name(self):
        draw = random.Random(114)
        for tests in LOTS:
            forms = random_forms(draw)
            first = self.outcome_of(confusing, {"tests": tests, "forms": forms})
            self.assertEqual(first, repr(confusing(tests, forms)))


class ConfusingError(CallCase):
    FOUR, APART = (("G1", "S2"),), ((2, 2, 2, 2), (2, 2, 3, 3))

    def told(self, expected, tests, forms, value):
        self.assertEqual(repr(error_told(tests, forms, value)), repr(expected))
        self.tells(expected, confusing_error, tests=tests, forms=forms, value=value)

    def judged(self, tests, forms, value):
        expected = error_told(tests, forms, value)
        self.assertEqual(repr(confusing_error(tests, forms, value)), repr(expected), (tests, forms, value))
        return expected if expected is None or type(expected) is str else expected[0]

    def test_form(self):
        one, other = self.APART
        self.told(None, self.FOUR, ((1, -1),), self.APART)
        for value in any_values():
            self.told("form", self.FOUR, ((1, -1),), value)
            self.told("form", self.FOUR, (), (value, other))
            self.told("form", self.FOUR, (), (one, value))
            for at in range(4):
                if type(value) is not int or not 0 <= value <= 10 ** 6:
                    self.told("form", self.FOUR, (), (one[:at] + (value,) + one[at + 1:], other))
                    self.assertEqual(
                        confusing_error((), ((9, 9),), (one, other[:at] + (value,) + other[at + 1:])), "form")
        for value in ([one, other], (one,), (one, other, one), (list(one), other), (one, list(other)), (one[:3], other),
                      (one, other + (2,)), (one + other,), {one: other}, one, "22"):
            self.told("form", self.FOUR, ((1, -1),), value)

    def test_the_greatest_and_the_least(self):
        most = 10 ** 6
        for tests, forms in ((self.FOUR, ()), ((("S1", "S2"),), ((1, 0),))):
            self.told(None, tests, forms, ((most,) * 4, (most, most, 0, most)))
            for wrong in (most + 1, -1, 10 ** 399, -(10 ** 399), True, False, None):
                self.told("form", tests, forms, ((most,) * 4, (most, most, wrong, most)))
                self.told("form", tests, forms, ((wrong, 0, 0, 0), (most, most, 0, most)))

    def test_the_first_one_that_applies(self):
        forms = ((1, -1), (0, 0), (1, 0), (0, 1))
        zero = (5, 5, 5, 5)
        self.told(("before", 0), self.FOUR, forms, (zero, (6, 5, 6, 5)))
        self.told(("before", 2), self.FOUR, forms, (zero, (6, 6, 6, 5)))
        self.told(("before", 3), self.FOUR, ((1, 0), (0, 0), (9, 0), (0, 1)), (zero, (6, 5, 9, 9)))
        self.told(("now", 0), self.FOUR, forms, (zero, (5, 5, 5, 6)))
        self.told(("now", 2), self.FOUR, forms, (zero, (5, 5, 6, 6)))
        self.told(("before", 1), self.FOUR, ((1, -1), (1, 1)), (zero, (6, 6, 7, 5)))
        self.told("alike", self.FOUR, forms, (zero, zero))
        self.told("alike", (), (), (zero, (0, 1, 2, 3)))
        self.told("alike", self.FOUR, (), ((0, 1, 2, 3), (3, 2, 1, 0)))
        self.told("alike", self.FOUR, (), ((0, 1, 1, 3), (3, 2, 2, 0)))
        self.told(None, self.FOUR, (), ((0, 1, 1, 3), (3, 2, 1, 0)))
        self.told(None, self.FOUR, (), ((3, 2, 1, 0), (0, 1, 1, 3)))

    def test_random_pairs(self):
        draw, told = random.Random(115), {}
        for at in range(20000):
            tests, forms = draw.choice(LOTS), random_forms(draw)
            one = tuple(draw.randint(0, 2) for _ in range(4))
            other = tuple(each if draw.random() < 0.7 else draw.randint(0, 2) for each in one)
            told[self.judged(tests, forms, (one, other))] = True
        self.assertEqual(set(told), {None, "before", "now", "alike"})

    def test_pairs_near_those_that_are_returned(self):
        draw, told = random.Random(116), {}
        for tests in LOTS:
            for _ in range(12):
                forms = random_forms(draw)
                pair = confusing(tests, forms)
                if pair is None:
                    self.assertIsNotNone(error_told(tests, forms, (QUADRUPLES[0], QUADRUPLES[1])))
                    continue
                one, other = pair
                told[self.judged(tests, forms, (other, one))] = True
                for at in range(4):
                    for more in (-1, 1, 10 ** 6):
                        changed = other[:at] + (other[at] + more,) + other[at + 1:]
                        told[self.judged(tests, forms, (one, changed))] = True
                        told[self.judged(draw.choice(LOTS), forms, pair)] = True
        self.assertEqual(set(told), {None, "form", "before", "now", "alike"})


class ToldApart(CallCase):
    def judged(self, tests, one, other):
        now = told_apart(tests, one, other)
        self.assertTrue(is_fixed(now))
        if not apart_told(tests, one, other):
            self.assertIsNone(now, (tests, one, other))
            return False
        self.assertTrue(type(now) is tuple and len(now) == 2, now)
        self.assertTrue(all(type(each) is int and 0 <= each <= 10 ** 6 for each in now), now)
        self.assertNotEqual(holds(tests, one + now), holds(tests, other + now), (tests, one, other, now))
        return True

    def test_all_small_sums(self):
        sums = list(product(range(3), repeat=2))
        for tests in LOTS:
            for one, other in product(sums, repeat=2):
                told = self.judged(tests, one, other)
                found = any(holds(tests, one + now) != holds(tests, other + now) for now in product(range(4), repeat=2))
                self.assertIs(told, found, (tests, one, other))

    def test_great_sums(self):
        draw, told = random.Random(117), {}
        numbers = [0, 1, 2, 99999, 10 ** 5]
        for tests in LOTS:
            for _ in range(120):
                mine = draw.sample(numbers, 2) + [draw.randint(0, 10 ** 5)]
                one, other = (tuple(draw.choice(mine) for _ in range(2)) for _ in range(2))
                told[(tests, self.judged(tests, one, other))] = True
        # Without tests, and with the last sums' test alone, nothing is told apart; with any other ones something is.
        self.assertEqual({tests for tests, apart in told if not apart}, set(LOTS))
        self.assertEqual(set(LOTS) - {tests for tests, apart in told if apart}, {(), (("G2", "S2"),)})

    def test_by_place_and_by_name(self):
        draw = random.Random(118)
        for tests in LOTS:
            for _ in range(3):
                one, other = (tuple(draw.choice((3, 4, 10 ** 5)) for _ in range(2)) for _ in range(2))
                first = self.outcome_of(told_apart, {"tests": tests, "one": one, "other": other})
                self.assertEqual(first, repr(told_apart(tests, one, other)))


class Holds(unittest.TestCase):
    def test_what_is_carried_tells_what_is_kept(self):
        """Who carries what is told sees of the first sums whatever tells them apart."""
        for tests in LOTS:
            forms = [FORMS[word] for word in carried(tests)]
            for one, other in combinations(list(product(range(4), repeat=2)), 2):
                if told_apart(tests, one, other) is not None:
                    self.assertNotEqual(worths(forms, one + (0, 0))[0], worths(forms, other + (0, 0))[0])


if __name__ == "__main__":
    unittest.main()
