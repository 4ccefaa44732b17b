"""[H1] to [H5]: how many visits there are behind stillness, the most there are, and runs that take so many."""

import random
import unittest
from itertools import product

from stillrounds.errors import Unfit
from stillrounds.moving import led, open_deeds
from stillrounds.soon import longest, longest_error, most_visits, visits_left
from stillrounds.standings import start
from tests.bookkinds import LOTS, MANNERS, TESTS, WORDS, WORLDS
from tests.courses import Course, course_of
from tests.helpers import CallCase, any_values, is_fixed
from tests.model import random_book, random_runs

SLOW, ONCE, SLOW_ANEW, ONCE_ANEW = ("slow", "alike"), ("at once", "alike"), ("slow", "anew"), ("at once", "anew")
RESTS = (True, ())
FOUR, BALANCE = ((("G1", "S2"),), (RESTS, RESTS)), ((("G2", "S2"),), (RESTS, RESTS))
NOTING = ((("G2", "S2"),), ((True, ("got lower",)),) * 2)
NO_DEEDS = [
    None, True, 0, "rest 0", [], {}, (), ("rest",), ("rest", True), ("rest", 7), ["rest", 0], ("send", 0, 0),
    ("visit", 0, 1), ("visit", -1), ("get", 0), ("stop", 0), (("rest", 0),), ("rest", "0"), ("visit", 10 ** 399),
]


def all_rest(course):
    return not any(course.busy) and not any(course.roads.values())


def visits_told(course, draw):
    """How many visits are done behind a course until something is said, in whatever order; and what is said then."""
    course, visits = course.copy(), 0
    while course.said == "no":
        course.do(draw.choice([deed for deed in course.deeds() if deed[0] == "visit"]))
        visits += 1
    return visits, course.said


def most_told(book, world):
    """The three cases of the document."""
    tests, manners = book
    n = len(manners)
    if any(name in ("G1", "S1") for test in tests for name in test):
        return (n - 1) + 2 * n
    first = {"got lower": 1, "sent lower": 1, "got higher": 0, "sent higher": 0}
    last = {"got lower": n - 1, "sent lower": n - 1, "got higher": n - 2, "sent higher": n - 2}
    noting = [i for i, (_, notes) in enumerate(manners) if any(first[word] <= i <= last[word] for word in notes)]
    if noting:
        return (n - 1 - (noting[0] if world[1] == "alike" else 0)) + 2 * n
    return 2 * n


def error_told(book, world, value):
    """What longest_error is to tell."""
    many = len(book[1])
    if type(value) is not tuple or len(value) != 2 or type(value[1]) is not tuple:
        return "form"
    works, deeds = value
    if type(works) is not tuple or len(works) != many or any(type(each) is not bool for each in works):
        return "form"
    course, place = course_of(book, world, works, deeds[:400])
    if place is not None or len(deeds) > 400:
        return ("deed", 400 if place is None else place)
    if course.said != "no":
        return "said"
    if not all_rest(course):
        return "restless"
    visits, _ = visits_told(course, random.Random(0))
    return "fewer" if visits < most_told(book, world) else None


def books_for_most(draw, how_many):
    """Books of all three cases."""
    for at in range(how_many):
        many = 2 + at % 5
        tests = ((), (TESTS[4],), draw.choice(LOTS))[at // 5 % 3]
        share = draw.choice((0, 0.05, 0.15, 0.5))
        manners = tuple(
            (draw.random() < 0.7, tuple(word for word in WORDS if draw.random() < share)) for _ in range(many)
        )
        yield (tests, manners)


class VisitsLeft(CallCase):
    def test_still_standings_that_come(self):
        draw, told = random.Random(91), {}
        for book, world, works, deeds, standings in random_runs(92, 800, 40):
            course = Course(book, world, works)
            for at, standing in enumerate(standings):
                if all_rest(course) and course.said == "no":
                    expected, word = visits_told(course, draw)
                    self.assertEqual(repr(visits_left(book, world, standing)), repr(expected))
                    self.assertEqual(word, "right")
                    told[(world, len(works))] = told.get((world, len(works)), 0) + 1
                else:
                    with self.assertRaises(Unfit):
                        visits_left(book, world, standing)
                if at < len(deeds):
                    course.do(deeds[at])
        self.assertEqual(len(told), 20)
        self.assertTrue(all(many > 10 for many in told.values()), told)

    def test_by_place_and_by_name(self):
        draw = random.Random(93)
        for book, world, works, deeds, standings in random_runs(94, 80, 25):
            course = course_of(book, world, works, deeds)[0]
            expected = Unfit()
            if all_rest(course) and course.said == "no":
                expected = visits_told(course, draw)[0]
            self.raises_or_tells(expected, visits_left, book=book, world=world, standing=standings[-1])

    def test_from_the_start_on(self):
        for many in range(2, 7):
            for world in WORLDS:
                for tests in LOTS[::3]:
                    for works in product((False, True), repeat=many):
                        book = (tests, ((True, WORDS),) * many)
                        expected = Unfit() if any(works) else 2 * many
                        if many < 4:
                            self.raises_or_tells(expected, visits_left, book=book, world=world, standing=start(works))
                        elif not any(works):
                            self.assertEqual(visits_left(book, world, start(works)), expected)

    def test_one_less_behind_each_visit(self):
        draw = random.Random(95)
        for book in books_for_most(draw, 90):
            for world in WORLDS:
                works, deeds = longest(book, world)
                course = course_of(book, world, works, deeds)[0]
                left = most_told(book, world)
                while course.said == "no":
                    self.assertEqual(visits_left(book, world, course.standing()), left)
                    self.assertGreaterEqual(left, 1)
                    course.do(draw.choice(course.deeds()))
                    left -= 1
                self.assertEqual((left, course.said), (0, "right"))

    def test_unfit(self):
        sent = (("send", 0, 1), ("rest", 0))
        for world in (SLOW, SLOW_ANEW):
            # A letter is under way, though nobody works; then it is got, and somebody works.
            self.raises(Unfit(), visits_left, book=FOUR, world=world, standing=led(FOUR, world, (True, False), sent))
            got = led(FOUR, world, (True, False), sent + (("get", 0, 1),))
            self.raises(Unfit(), visits_left, book=FOUR, world=world, standing=got)
            rest = led(FOUR, world, (True, False), sent + (("get", 0, 1), ("rest", 1)))
            self.tells(4, visits_left, book=FOUR, world=world, standing=rest)
        for world in WORLDS:
            for many in range(2, 7):
                book = ((), (RESTS,) * many)
                visits = tuple(("visit", i) for i in range(many)) * 2
                for at in range(2 * many):
                    standing = led(book, world, (False,) * many, visits[:at])
                    self.tells(2 * many - at, visits_left, book=book, world=world, standing=standing)
                said = led(book, world, (False,) * many, visits)
                self.raises(Unfit(), visits_left, book=book, world=world, standing=said)

    def test_unfit_when_said_early(self):
        book = ((), (RESTS, RESTS))
        deeds = (("send", 0, 1), ("rest", 0), ("visit", 0), ("visit", 1), ("visit", 0), ("visit", 1))
        early = led(book, SLOW, (True, False), deeds)
        self.raises(Unfit(), visits_left, book=book, world=SLOW, standing=early)
        still = led(book, SLOW, (True, False), deeds + (("get", 0, 1), ("rest", 1)))
        self.assertEqual(still[4], "early")
        self.raises(Unfit(), visits_left, book=book, world=SLOW, standing=still)


class MostVisits(CallCase):
    def test_the_three_cases(self):
        draw, told = random.Random(96), {}
        for book in books_for_most(draw, 2000):
            for world in WORLDS:
                expected = most_told(book, world)
                self.assertEqual(repr(most_visits(book, world)), repr(expected), (book, world))
                told[(world[1], len(book[1]), expected)] = True
        for many in range(2, 7):
            self.assertTrue(all(("alike", many, most) in told for most in range(2 * many, 3 * many)))
            self.assertEqual({most for tours, n, most in told if (tours, n) == ("anew", many)},
                             {2 * many, 3 * many - 1})

    def test_all_books_of_two_machines_and_few_tests(self):
        for tests in ((), (TESTS[4],), (TESTS[0],), (TESTS[5],), (TESTS[3], TESTS[4])):
            for manners in product(MANNERS, repeat=2):
                for world in WORLDS:
                    self.assertEqual(most_visits((tests, manners), world), most_told((tests, manners), world))

    def test_all_lots_of_tests(self):
        for tests in LOTS:
            for many in range(2, 7):
                book = (tests, (RESTS,) * many)
                for world in WORLDS:
                    expected = 2 * many if tests in ((), (("G2", "S2"),)) else 3 * many - 1
                    self.assertEqual(most_visits(book, world), expected)

    def test_each_word_at_each_machine(self):
        for many in range(2, 7):
            for i in range(many):
                for word in WORDS:
                    manners = tuple((True, (word,) if j == i else ()) for j in range(many))
                    lower_side = word.endswith("lower")
                    happens = i > 0 if lower_side else i < many - 1
                    for world in WORLDS:
                        ahead = i if world[1] == "alike" else 0
                        expected = 3 * many - 1 - ahead if happens else 2 * many
                        self.tells(expected, most_visits, book=((), manners), world=world)
                        self.assertEqual(most_visits(((TESTS[4],), manners), world), expected)

    def test_waiting_and_roads_play_no_part(self):
        draw = random.Random(97)
        for tests, manners in books_for_most(draw, 200):
            for tours in ("alike", "anew"):
                told = {
                    most_visits((tests, tuple((waits, notes) for _, notes in manners)), (roads, tours))
                    for waits in (False, True) for roads in ("slow", "at once")
                }
                self.assertEqual(len(told), 1)

    def all_left(self, book, world, letters, most):
        """What visits_left tells of the standings that come with so few letters, at most so many of them."""
        first = Course(book, world, (True,) * len(book[1]))
        seen, todo, found = {first.standing()}, [first], set()
        while todo and len(seen) < most:
            course = todo.pop()
            if all_rest(course):
                if course.said == "no":
                    found.add(visits_left(book, world, course.standing()))
                continue
            for deed in course.deeds():
                if deed[0] != "send" or sum(course.sent) < letters:
                    other = course.copy()
                    other.do(deed)
                    if other.standing() not in seen:
                        seen.add(other.standing())
                        todo.append(other)
        return found

    def test_none_takes_more(self):
        draw, reached = random.Random(98), 0
        for at in range(64):
            world, many = WORLDS[at % 4], 2 + at // 4 % 2
            tests = ((), (TESTS[4],), draw.choice(LOTS))[at // 8 % 3]
            manners = tuple((draw.random() < 0.7, draw.choice(MANNERS)[1] if at % 5 else ()) for _ in range(many))
            book = (tests, manners)
            found = self.all_left(book, world, 3 if many == 2 else 2, 4000)
            self.assertTrue(found)
            self.assertLessEqual(max(found), most_told(book, world), (book, world))
            self.assertLessEqual(max(found), most_visits(book, world), (book, world))
            reached += max(found) == most_visits(book, world)
        self.assertGreater(reached, 40)

    def test_none_of_long_runs_takes_more(self):
        for book, world, works, deeds, standings in random_runs(99, 300, 60):
            course = course_of(book, world, works, deeds)[0]
            if course.said == "no":
                # Led to stillness from wherever the run ended.
                while not all_rest(course):
                    course.do(next(deed for deed in course.deeds() if deed[0] in ("rest", "get")))
                self.assertLessEqual(visits_left(book, world, course.standing()), most_visits(book, world))


class Longest(CallCase):
    def is_right(self, book, world):
        run = longest(book, world)
        self.assertTrue(is_fixed(run))
        self.assertIsNone(error_told(book, world, run), (book, world, run))
        self.assertIsNone(longest_error(book, world, run))
        works, deeds = run
        self.assertEqual(visits_left(book, world, led(book, world, works, deeds)), most_told(book, world))
        return run

    def test_books_of_all_cases(self):
        for book in books_for_most(random.Random(101), 900):
            for world in WORLDS:
                self.is_right(book, world)

    def test_all_lots_and_each_word(self):
        for many in range(2, 7):
            for world in WORLDS:
                for tests in LOTS:
                    for waits in (False, True):
                        self.is_right((tests, ((waits, ()),) * many), world)
                for i in range(many):
                    for word in WORDS:
                        for tests in ((), (TESTS[4],)):
                            manners = tuple((j % 2 == 0, (word,) if j == i else ()) for j in range(many))
                            self.is_right((tests, manners), world)

    def test_by_place_and_by_name(self):
        for book in books_for_most(random.Random(102), 30):
            for world in WORLDS:
                first = self.outcome_of(longest, {"book": book, "world": world})
                self.assertEqual(first, repr(longest(book, world)))

    def test_any_book(self):
        draw = random.Random(103)
        for at in range(400):
            self.is_right(random_book(draw, 2 + at % 5), WORLDS[at % 4])


class LongestError(CallCase):
    def told(self, expected, book, world, value):
        self.assertEqual(repr(error_told(book, world, value)), repr(expected))
        self.tells(expected, longest_error, book=book, world=world, value=value)

    def judged(self, book, world, value):
        expected = error_told(book, world, value)
        self.assertEqual(repr(longest_error(book, world, value)), repr(expected), (book, world, value))
        return expected if expected is None or type(expected) is str else expected[0]

    def test_form(self):
        run = longest(FOUR, SLOW)
        for value in any_values():
            self.told("form", FOUR, SLOW, value)
            self.told("form", FOUR, SLOW, (value, run[1]))
            if type(value) is not tuple:
                self.told("form", FOUR, SLOW, (run[0], value))
        for value in ([run[0], run[1]], run + ((),), run[:1], (run,), {run[0]: run[1]}, (list(run[0]), run[1]),
                      (run[0], list(run[1])), (run[0][:1], run[1]), (run[0] + (True,), run[1]), ((0, 1), run[1]),
                      ((True, 0), run[1]), ((None, True), run[1]), ("wr", run[1])):
            self.told("form", FOUR, SLOW, value)
        # What is wrong with works is told ahead of what is wrong with deeds.
        self.told("form", FOUR, SLOW, ((True,), (None,)))

    def test_deeds_of_all_kinds_at_each_place(self):
        for book, world in ((FOUR, SLOW), (NOTING, ONCE_ANEW)):
            works, deeds = longest(book, world)
            for at in range(len(deeds) + 1):
                for wrong in NO_DEEDS + any_values():
                    value = (works, deeds[:at] + (wrong,) + deeds[at:])
                    self.assertEqual(longest_error(book, world, value), ("deed", at))
                self.told(("deed", at), book, world, (works, deeds[:at] + (None, ["rest", 0]) + deeds[at:]))

    def test_said(self):
        for many in range(2, 7):
            for world in WORLDS:
                visits = tuple(("visit", i) for i in range(many)) * 2
                book = ((), (RESTS,) * many)
                self.told(None, book, world, ((False,) * many, ()))
                for at in range(1, 2 * many):
                    self.told("fewer", book, world, ((False,) * many, visits[:at]))
                self.told("said", book, world, ((False,) * many, visits))
                self.told(("deed", 2 * many), book, world, ((False,) * many, visits + (("visit", 0),)))

    def test_said_ahead_of_restless(self):
        book = ((), (RESTS, RESTS))
        deeds = (("send", 0, 1), ("rest", 0), ("visit", 0), ("visit", 1), ("visit", 0), ("visit", 1))
        self.told("restless", book, SLOW, ((True, False), deeds[:5]))
        self.told("said", book, SLOW, ((True, False), deeds))
        self.told("said", book, SLOW, ((True, False), deeds + (("get", 0, 1),)))
        self.told("said", book, SLOW, ((True, False), deeds + (("get", 0, 1), ("rest", 1))))

    def test_restless(self):
        for many in range(2, 7):
            for world in WORLDS:
                book = ((("G1", "S1"),), (RESTS,) * many)
                for i in range(many):
                    works = tuple(j == i for j in range(many))
                    self.told("restless", book, world, (works, ()))
                    self.told("fewer", book, world, (works, (("rest", i),)))
                    sent = (("send", i, (i + 1) % many), ("rest", i))
                    self.told("restless", book, world, (works, sent))

    def test_four_hundred_deeds_and_one_more(self):
        # The machine 0 works on and spoils round after round; in the last one it sends when it has been visited.
        book, pair = ((("G1", "S1"),), ((False, ()), RESTS)), (("visit", 0), ("visit", 1))
        end = (("visit", 0), ("send", 0, 1), ("get", 0, 1), ("rest", 0), ("rest", 1))
        for start_works, deeds in (((True, False), pair * 197 + end), ((True, True), (("rest", 1),) + pair * 197 + end)):
            self.assertIn(len(deeds), (399, 400))
            self.told(None, book, SLOW, (start_works, deeds))
            self.told("restless", book, SLOW, (start_works, deeds[:-1]))
            self.told(("deed", 398), book, SLOW, (start_works, deeds[:398] + (None,) + deeds[398:]))
        self.assertEqual(len(deeds), 400)
        self.told(("deed", 400), book, SLOW, ((True, True), deeds + (("visit", 1),)))
        self.told(("deed", 400), book, SLOW, ((True, True), deeds + (None,)))
        self.told(("deed", 399), book, SLOW, ((True, True), deeds[:-1] + (None, ("rest", 1))))
        self.told(("deed", 400), book, SLOW, ((True, False), pair * 198 + end))
        # Far beyond; and what would be said, or is restless, behind too many deeds.
        self.told(("deed", 400), book, SLOW, ((True, False), pair * 2000))
        self.told(("deed", 400), book, SLOW, ((True, False), pair * 200 + (("rest", 0),) + pair * 2))
        self.told("restless", book, SLOW, ((True, False), pair * 200))
        self.told("said", book, SLOW, ((True, False), pair * 198 + (("rest", 0),) + pair))
        self.told("fewer", book, SLOW, ((True, False), pair * 199 + (("rest", 0),)))

    def test_changed_runs(self):
        draw, told = random.Random(104), {}
        for book in books_for_most(draw, 60):
            world = draw.choice(WORLDS)
            works, deeds = longest(book, world)
            many = len(works)
            pieces = [("rest", draw.randrange(many)), ("visit", draw.randrange(many))]
            pieces += [(word,) + tuple(draw.sample(range(many), 2)) for word in ("send", "get")]
            changed = [deeds[:at] + deeds[at + 1:] for at in range(len(deeds))]
            changed += [deeds[:at] for at in range(len(deeds))]
            changed += [deeds[:at] + (piece,) + deeds[at:] for at in range(len(deeds) + 1) for piece in pieces]
            for other in changed:
                told[self.judged(book, world, (works, other))] = True
            for i in range(many):
                told[self.judged(book, world, (works[:i] + (not works[i],) + works[i + 1:], deeds))] = True
            for other in books_for_most(draw, 6):
                told[self.judged(other, draw.choice(WORLDS), (works, deeds))] = True
        self.assertEqual(set(told), {None, "form", "deed", "restless", "fewer"})

    def test_random_runs(self):
        told = {}
        for book, world, works, deeds, _ in random_runs(105, 240, 30):
            for at in range(len(deeds) + 1):
                told[self.judged(book, world, (works, deeds[:at]))] = True
        self.assertEqual(set(told), {None, "said", "restless", "fewer"})


class Holds(unittest.TestCase):
    def test_behind_a_still_standing_only_visits_and_never_early(self):
        draw, still = random.Random(106), 0
        for book, world, works, deeds, standings in random_runs(107, 300, 40):
            for standing in standings:
                if not standing[1] and not any(site[0] for site in standing[0]) and standing[4] == "no":
                    still += 1
                    course = course_of(book, world, works, deeds[:standings.index(standing)])[0]
                    left = visits_left(book, world, standing)
                    for at in range(left):
                        self.assertTrue(all(deed[0] == "visit" for deed in open_deeds(book, world, course.standing())))
                        self.assertEqual(course.said, "no")
                        course.do(draw.choice(course.deeds()))
                    self.assertEqual(course.said, "right")
        self.assertGreater(still, 200)


if __name__ == "__main__":
    unittest.main()
