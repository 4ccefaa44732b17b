"""[J1] to [J4]: which book says whenever another one says, and doubles by which they part."""

import random
import unittest
from itertools import product

from stillrounds.epochruns import run_of
from stillrounds.errors import Unfit
from stillrounds.knownbooks import known_book, known_names
from stillrounds.whenever import parting, parting_error, says_whenever
from tests.bookkinds import LOTS, WORDS, choices
from tests.cones import says_whenever_told
from tests.courses import Course, course_of
from tests.eventtables import (
    all_events, book_of_event, falls_by, near_book, pairs_of_books, tight_ones, waiting_book,
)
from tests.helpers import CallCase, any_values, is_fixed
from tests.lists import double_runs, lively_list
from tests.rowtables import stricter

SLOW = ("slow", "alike")
RESTS = (True, ())
FOUR, BALANCE = ((("G1", "S2"),), (RESTS, RESTS)), ((("G2", "S2"),), (RESTS, RESTS))
NOTING = ((("G2", "S2"),), ((True, ("got lower",)),) * 2)
TWICE = ((("S1", "S2"),), (RESTS, RESTS))
LATE = (("send", 1, 0), ("rest", 1), ("visit", 0), ("visit", 1), ("get", 1, 0), ("rest", 0), ("visit", 0), ("visit", 1))
NO_DEEDS = [
    None, True, 0, "rest 0", [], {}, (), ("rest",), ("rest", True), ("rest", 7), ["rest", 0], ("send", 0, 0),
    ("visit", 0, 1), ("visit", -1), ("get", 0), ("stop", 0), (("rest", 0),), ("rest", "0"), ("visit", 10 ** 399),
]


def said_by(book, run):
    """What the book says at the end of a run, done deed by deed."""
    course, place = course_of(book, SLOW, *run)
    assert place is None
    return course.said != "no"


def is_double(many, run):
    works, deeds = run
    if len(works) != many or {type(each) for each in works} != {bool} or not deeds or deeds[-1][0] != "visit":
        return False
    return [deed for deed in deeds if deed[0] == "visit"] == [("visit", i) for i in range(many)] * 2


def error_told(one, other, value):
    """What parting_error is to tell."""
    many = len(one[1])
    if type(value) is not tuple or len(value) != 2 or type(value[1]) is not tuple:
        return "form"
    works, deeds = value
    if type(works) is not tuple or len(works) != many or any(type(each) is not bool for each in works):
        return "form"
    course, place = course_of(one, SLOW, works, deeds[:400])
    if place is not None or len(deeds) > 400:
        return ("deed", 400 if place is None else place)
    if sum(deed[0] == "visit" for deed in deeds) != 2 * many or deeds[-1][0] != "visit":
        return "visits"
    if course.said == "no":
        return "one"
    return "other" if said_by(other, value) else None


class SaysWhenever(CallCase):
    def test_pairs_of_books_by_the_tables(self):
        told = {}
        for one, other in pairs_of_books(121, 2500):
            expected = not falls_by(one, other)
            self.assertIs(says_whenever(one, other), expected, (one, other))
            told[(len(one[1]), expected)] = told.get((len(one[1]), expected), 0) + 1
        self.assertEqual(len(told), 10)
        self.assertTrue(all(many > 80 for many in told.values()), told)

    def test_pairs_of_books_by_what_can_be(self):
        for one, other in pairs_of_books(122, 1500):
            self.assertIs(says_whenever(one, other), says_whenever_told(one, other), (one, other))

    def test_each_row_at_each_place(self):
        draw = random.Random(123)
        for many in range(2, 7):
            for event, way, one in tight_ones(many):
                other = book_of_event(many, event)
                self.assertIs(says_whenever(one, other), False, (one, other))
                # One that asks more: another row may be left to fall to.
                for more in draw.sample(stricter(one), min(4, len(stricter(one)))):
                    self.assertIs(says_whenever(more, other), not falls_by(more, other), (more, other))

    def test_each_word_of_each_row_counts(self):
        # With the words of a row noted one by one nothing is left of it; what is asked is told exactly.
        for many in (2, 3):
            for event, way, (tests, manners) in tight_ones(many):
                other = book_of_event(many, event)
                for i, words in way.items():
                    for word in words:
                        notes = tuple(each for each in WORDS if each in manners[i][1] or each == word)
                        one = (tests, manners[:i] + ((True, notes),) + manners[i + 1:])
                        self.assertIs(says_whenever(one, other), says_whenever_told(one, other), (one, other))

    def test_all_lots_and_events_of_two_machines(self):
        draw = random.Random(124)
        manners = [(True, notes) for notes in choices(WORDS)]
        for tests in LOTS:
            for event in all_events(2):
                for pair in draw.sample(list(product(manners, repeat=2)), 6):
                    one, other = (tests, pair), book_of_event(2, event)
                    self.assertIs(says_whenever(one, other), not falls_by(one, other), (one, other))

    def test_words_that_cannot_happen(self):
        for many in range(2, 7):
            for tests in LOTS:
                one = (tests, (RESTS,) * many)
                first, last = (True, ("got lower", "sent lower")), (True, ("got higher", "sent higher"))
                self.assertIs(says_whenever(one, ((), (first,) + (RESTS,) * (many - 2) + (last,))), True)

    def test_by_place_and_by_name(self):
        for one, other in pairs_of_books(125, 150):
            self.tells(not falls_by(one, other), says_whenever, one=one, other=other)

    def test_of_itself(self):
        for one, _ in pairs_of_books(126, 300):
            self.assertIs(says_whenever(one, one), True)
        for name in known_names():
            for many in range(2, 7):
                book = known_book(name, many)
                self.tells(True, says_whenever, one=book, other=book)

    def test_along_three_books(self):
        draw, found = random.Random(127), 0
        for at in range(3000):
            one = waiting_book(draw, 2 + at % 5)
            two = near_book(draw, one)
            three = near_book(draw, two)
            if says_whenever(one, two) and says_whenever(two, three):
                self.assertIs(says_whenever(one, three), True, (one, two, three))
                found += not says_whenever(three, one)
        self.assertGreater(found, 200)

    def test_more_tests_and_more_words(self):
        draw = random.Random(128)
        for at in range(200):
            book = waiting_book(draw, 2 + at % 5)
            for more in stricter(book):
                self.assertIs(says_whenever(more, book), True, (more, book))

    def test_four_counts(self):
        for one, other in pairs_of_books(129, 300):
            tests = tuple(sorted(set(one[0]) | {("G1", "S2")}))
            self.assertIs(says_whenever((tests, one[1]), other), True)
            self.assertIsNone(parting((tests, one[1]), other))

    def test_unfit(self):
        draw = random.Random(130)
        for many in range(2, 7):
            book = waiting_book(draw, many)
            for others in range(2, 7):
                other = waiting_book(draw, others)
                if many == others:
                    self.outcome_of(says_whenever, {"one": book, "other": other})
                    continue
                for function in (says_whenever, parting):
                    self.raises(Unfit(), function, one=book, other=other)
            for i in range(many):
                hasty = (book[0], book[1][:i] + ((False, book[1][i][1]),) + book[1][i + 1:])
                for function in (says_whenever, parting):
                    self.raises(Unfit(), function, one=book, other=hasty)
                    self.raises(Unfit(), function, one=hasty, other=book)
                    self.raises(Unfit(), function, one=hasty, other=hasty)


class Doubles(unittest.TestCase):
    def test_no_double_gainsays(self):
        """Many doubles and many books: where one says and other does not, it is so told."""
        draw, parted = random.Random(131), 0
        doubles = []
        for many, works, deeds in double_runs(132, 250):
            end = max(at for at, deed in enumerate(deeds) if deed[0] == "visit")
            doubles.append((many, works, deeds[:end + 1]))
        for at in range(400):
            many = 2 + at % 5
            run = run_of(many, lively_list(draw, many, draw.randint(1, 8)))
            if run is not None:
                end = max(at for at, deed in enumerate(run[1]) if deed[0] == "visit")
                doubles.append((many, run[0], run[1][:end + 1]))
        for many, works, deeds in doubles:
            self.assertTrue(is_double(many, (works, deeds)))
            books = [waiting_book(draw, many) for _ in range(10)]
            books += [book_of_event(many, event) for event in all_events(many)]
            saying = [said_by(book, (works, deeds)) for book in books]
            for one, its in zip(books, saying):
                for other, others in zip(books, saying):
                    if its and not others:
                        parted += 1
                        self.assertIs(says_whenever(one, other), False, (one, other, works, deeds))
                        self.assertIsNone(parting_error(one, other, (works, deeds)))
        self.assertGreater(parted, 1000)


class Parting(CallCase):
    def judged(self, one, other):
        double = parting(one, other)
        self.assertTrue(is_fixed(double))
        if not falls_by(one, other):
            self.assertIsNone(double)
            return True
        self.assertTrue(is_double(len(one[1]), double), double)
        self.assertLessEqual(len(double[1]), 400)
        self.assertTrue(said_by(one, double), (one, other, double))
        self.assertFalse(said_by(other, double), (one, other, double))
        self.assertIsNone(parting_error(one, other, double))
        return False

    def test_each_row_at_each_place(self):
        for many in range(2, 7):
            for event, way, one in tight_ones(many):
                self.assertFalse(self.judged(one, book_of_event(many, event)))

    def test_pairs_of_books(self):
        told = {}
        for one, other in pairs_of_books(133, 1500):
            told[(len(one[1]), self.judged(one, other))] = True
        self.assertEqual(len(told), 10)

    def test_by_place_and_by_name(self):
        for one, other in pairs_of_books(134, 60):
            first = self.outcome_of(parting, {"one": one, "other": other})
            self.assertEqual(first, repr(parting(one, other)))


class PartingError(CallCase):
    def told(self, expected, one, other, value):
        self.assertEqual(repr(error_told(one, other, value)), repr(expected))
        self.tells(expected, parting_error, one=one, other=other, value=value)

    def judged(self, one, other, value):
        expected = error_told(one, other, value)
        self.assertEqual(repr(parting_error(one, other, value)), repr(expected), (one, other, value))
        return expected if expected is None or type(expected) is str else expected[0]

    def test_form(self):
        run = ((False, True), LATE)
        self.told(None, NOTING, FOUR, run)
        for value in any_values():
            self.told("form", NOTING, FOUR, value)
            self.told("form", NOTING, FOUR, (value, LATE))
            if type(value) is not tuple:
                self.told("form", NOTING, FOUR, (run[0], value))
        for value in (list(run), run + ((),), run[:1], (run,), {run[0]: LATE}, ([False, True], LATE),
                      (run[0], list(LATE)), ((True,), LATE), ((False, True, True), LATE), ((0, 1), LATE),
                      ((False, 1), LATE), ((True,), (None,))):
            self.told("form", NOTING, FOUR, value)

    def test_deeds_of_all_kinds_at_each_place(self):
        for at in range(len(LATE) + 1):
            for wrong in NO_DEEDS + any_values():
                value = ((False, True), LATE[:at] + (wrong,) + LATE[at:])
                self.assertEqual(parting_error(NOTING, FOUR, value), ("deed", at))
            value = ((False, True), LATE[:at] + (None, ["rest", 0]) + LATE[at:])
            self.told(("deed", at), NOTING, FOUR, value)

    def test_visits(self):
        for at in range(len(LATE)):
            self.told("visits", NOTING, FOUR, ((False, True), LATE[:at]))
        # The last deed is no visit; or there are more visits, where one has not said yet.
        self.told("visits", NOTING, FOUR, ((False, True), (("rest", 1),)))
        behind = (("send", 1, 0), ("visit", 0), ("rest", 1), ("visit", 1), ("visit", 0), ("visit", 1), ("get", 1, 0))
        self.told(None, TWICE, BALANCE, ((False, True), behind[:-1]))
        self.told("visits", TWICE, BALANCE, ((False, True), behind))
        for many in range(2, 7):
            one, other = ((("G1", "S2"),), (RESTS,) * many), ((), (RESTS,) * many)
            works = (True,) + (False,) * (many - 1)
            visits = tuple(("visit", i) for i in range(many))
            kept = (("send", 0, 1), ("rest", 0))
            self.told("one", one, other, (works, kept + visits * 2))
            for more in range(1, many + 1):
                self.told("visits", one, other, (works, kept + visits * 2 + visits[:more]))
            self.told(("deed", 2 + 2 * many), other, one, (works, kept + visits * 2 + visits[:1]))
            self.told(None, other, one, (works, kept + visits * 2))

    def test_one_and_other(self):
        run = ((False, True), LATE)
        self.told("other", BALANCE, TWICE, run)
        self.told("one", FOUR, BALANCE, run)
        # Neither says: that one does not is told first.
        self.told("one", FOUR, FOUR, run)
        self.told("other", BALANCE, BALANCE, run)

    def test_unfit_whatever_value_is(self):
        hasty = (FOUR[0], (RESTS, (False, ())))
        three = (FOUR[0], (RESTS,) * 3)
        for value in any_values() + [((False, True), LATE), ((False,) * 3, LATE)]:
            for one, other in ((FOUR, hasty), (hasty, FOUR), (hasty, hasty), (FOUR, three), (three, FOUR)):
                self.raises(Unfit(), parting_error, one=one, other=other, value=value)

    def test_four_hundred_deeds_and_one_more(self):
        woken = (("send", 1, 0), ("get", 1, 0), ("rest", 0))
        twice = (("send", 1, 0), ("get", 1, 0)) * 2 + (("rest", 0),)
        full = woken * 129 + twice + LATE
        self.assertEqual(len(full), 400)
        self.told(None, NOTING, FOUR, ((False, True), full))
        self.told("other", BALANCE, TWICE, ((False, True), full))
        self.told(("deed", 400), NOTING, FOUR, ((False, True), full + (("rest", 0),)))
        self.told(("deed", 400), NOTING, FOUR, ((False, True), full + (None,) * 9))
        self.told(("deed", 399), NOTING, FOUR, ((False, True), full[:-1] + (None,) + full[-1:]))
        self.told(("deed", 400), NOTING, FOUR, ((False, True), woken * 131 + LATE))
        self.told(("deed", 400), NOTING, FOUR, ((False, True), woken * 1000))
        self.told("visits", NOTING, FOUR, ((False, True), woken * 133))
        self.told(None, NOTING, FOUR, ((False, True), woken * 130 + LATE))

    def test_changed_doubles(self):
        draw, told = random.Random(135), {}
        for one, other in pairs_of_books(136, 200):
            double = parting(one, other)
            if double is None:
                continue
            works, deeds = double
            machines = range(len(works))
            pieces = [("rest", draw.choice(machines)), ("visit", draw.choice(machines))]
            pieces += [(word,) + tuple(draw.sample(machines, 2)) for word in ("send", "get")]
            changed = [deeds[:at] + deeds[at + 1:] for at in range(len(deeds))]
            changed += [deeds[:at] for at in range(len(deeds))]
            changed += [deeds[:at] + (piece,) + deeds[at:] for at in range(len(deeds) + 1) for piece in pieces]
            for other_deeds in changed[::3]:
                told[self.judged(one, other, (works, other_deeds))] = True
            for _ in range(4):
                told[self.judged(near_book(draw, one), near_book(draw, other), double)] = True
            told[self.judged(other, one, double)] = True
        self.assertEqual(set(told), {None, "deed", "visits", "one", "other"})

    def test_parts_of_what_is_returned(self):
        double = parting(NOTING, FOUR)
        for value in (double[0], double[1], (double, double), double[::-1], (double[0], (double,)), list(double),
                      (double[0], tuple(list(deed) for deed in double[1])), double + (None,)):
            self.told(error_told(NOTING, FOUR, value), NOTING, FOUR, value)


class Unending(Course):
    """A course that goes on round after round: nothing is ever said."""

    def tests_hold(self):
        return False


class LongRuns(unittest.TestCase):
    """[J4]: in whichever round one says first the other one says, or has said before."""

    def go_on(self, draw, one, other, most):
        """Goes on until one says; whether it does, after how many rounds, and what other has said by then."""
        many = len(one[1])
        works = tuple(draw.random() < 0.5 for _ in range(many))
        guide, courses = Unending(one, SLOW, works), [Course(book, SLOW, works) for book in (one, other)]
        lively = {"visit": draw.randint(2, 12), "rest": draw.randint(2, 6), "send": draw.randint(0, 2), "get": 2}
        visits = 0
        for _ in range(most):
            can = guide.deeds()
            word = draw.choices(list(lively), list(lively.values()))[0]
            deed = draw.choice([deed for deed in can if deed[0] == word] or can)
            visits += deed[0] == "visit"
            guide.do(deed)
            for course in courses:
                if deed[0] != "visit" or course.said == "no":
                    self.assertTrue(course.can(deed))
                    course.do(deed)
            if courses[0].said != "no":
                return True, visits // many, courses[1].said
        return False, visits // many, courses[1].said

    def test_whatever_is_done_however_long(self):
        draw, rounds, parted = random.Random(137), {}, 0
        for one, other in pairs_of_books(138, 500):
            whenever = says_whenever(one, other)
            for _ in range(3):
                says, many, word = self.go_on(draw, one, other, 150)
                if says and whenever:
                    self.assertNotEqual(word, "no", (one, other))
                    rounds[many] = rounds.get(many, 0) + 1
                parted += says and word == "no"
        self.assertTrue(rounds.get(2, 0) > 50 and sum(rounds[many] for many in rounds if many > 2) > 50, rounds)
        self.assertGreater(parted, 20)


if __name__ == "__main__":
    unittest.main()
