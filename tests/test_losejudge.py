"""[E1], [E3], [E4]: what is wrong with a value as a losing run."""

import random
import unittest

from stillrounds.losejudge import losing_error
from stillrounds.losing import losing
from tests.bookkinds import MANNERS, WORDS, WORLDS
from tests.courses import course_of, losing_error_told
from tests.helpers import CallCase, any_values
from tests.rowtables import ONCE, SLOW, tight_books

CALM, KEEN = (True, ()), (True, ("got lower",))
SUMS = ((("G2", "S2"),), (CALM, CALM))
CAUGHT = ((False, True), (
    ("send", 1, 0), ("rest", 1), ("visit", 0), ("visit", 1), ("visit", 0), ("get", 1, 0), ("send", 0, 1), ("get", 0, 1),
    ("rest", 1), ("visit", 1)))
NO_DEEDS = [
    None, True, 0, "rest 0", [], {}, (), ("rest",), ("rest", True), ("rest", 7), ["rest", 0], ("send", 0, 0),
    ("visit", 0, 1), ("visit", -1), ("get", 0), ("stop", 0), (("rest", 0),), ("rest", "0"), ("visit", 10 ** 399),
]


def told_runs(most_machines):
    """Losing runs of each row, with their books and worlds."""
    found = []
    for world in WORLDS:
        for many in range(2, most_machines + 1):
            books = tight_books(world, many)
            for _, _, book in books[::1 + 6 * (many - 2)]:
                found.append((book, world, losing(book, world)))
    return found


class JudgeCase(CallCase):
    def judged(self, book, world, value):
        expected = losing_error_told(book, world, value)
        self.assertEqual(repr(losing_error(book, world, value)), repr(expected), (book, world, value))
        return expected

    def told(self, expected, book, world, value):
        self.tells(expected, losing_error, book=book, world=world, value=value)


class LosingError(JudgeCase):
    def test_form(self):
        for book, world in ((SUMS, SLOW), (((), (CALM,) * 6), ONCE)):
            many = len(book[1])
            for value in any_values():
                pair = type(value) is tuple and len(value) == 2 and type(value[1]) is tuple
                self.told("works" if pair else "form", book, world, value)
                if type(value) is not tuple:
                    self.told("form", book, world, ((True,) * many, value))
                    self.told("form", book, world, (value, list(CAUGHT[1])))
            for value in ([CAUGHT[0], CAUGHT[1]], CAUGHT + ((),), CAUGHT[:1], (CAUGHT,), {CAUGHT[0]: CAUGHT[1]}):
                self.told("form", book, world, value)

    def test_works(self):
        for value in any_values():
            self.told("works", SUMS, SLOW, (value, CAUGHT[1]))
        for works in ((False,), (False, True, True), [False, True], (0, 1), (False, 1), (None, True), ("r", "w"), (),
                      (True, (True,)), ((False, True),), "rw", {False: True}):
            # What is wrong with works is told ahead of what is wrong with deeds.
            for deeds in (CAUGHT[1], (), (None,), (("rest", 9),) * 500):
                self.told("works", SUMS, SLOW, (works, deeds))
        for many in range(2, 7):
            book = ((), (CALM,) * many)
            for length in range(9):
                self.told("whole" if length == many else "works", book, SLOW, ((True,) * length, ()))

    def test_deeds_of_all_kinds_at_each_place(self):
        works, deeds = CAUGHT
        for at in range(len(deeds) + 1):
            for wrong in NO_DEEDS + any_values():
                self.assertEqual(losing_error(SUMS, SLOW, (works, deeds[:at] + (wrong,) + deeds[at:])), ("deed", at))
            self.told(("deed", at), SUMS, SLOW, (works, deeds[:at] + (None, ["rest", 0]) + deeds[at:]))

    def test_whole(self):
        works, deeds = CAUGHT
        for at in range(len(deeds)):
            self.told("whole", SUMS, SLOW, (works, deeds[:at]))
        self.told(None, SUMS, SLOW, CAUGHT)
        self.told("whole", (SUMS[0], (CALM, KEEN)), SLOW, CAUGHT)
        self.told("whole", ((("G1", "S2"),), (CALM, CALM)), SLOW, CAUGHT)
        # What is said rightly is not early.
        for many in range(2, 7):
            rounds = tuple(("visit", i) for i in range(many)) * 2
            self.told("whole", ((), (CALM,) * many), SLOW, ((False,) * many, rounds))

    def test_the_greatest_length(self):
        works, deeds = CAUGHT
        more = (("send", 0, 1), ("get", 0, 1), ("rest", 1), ("send", 0, 1), ("send", 0, 1), ("rest", 0), ("get", 0, 1),
                ("get", 0, 1), ("send", 1, 0), ("get", 1, 0)) * 2
        for length in range(len(more) + 1):
            expected = None if len(deeds) + length <= 20 else "long"
            self.told(expected, SUMS, SLOW, (works, deeds + more[:length]))

    def test_far_beyond(self):
        works, deeds = CAUGHT
        for total in (399, 400, 401, 402, 500, 4000):
            long = deeds + (("send", 0, 1),) * (total - len(deeds))
            self.assertEqual(len(long), total)
            self.told("long", SUMS, SLOW, (works, long))
            # What is no deed is told ahead of the length, however far behind it stands.
            for wrong in (None, ("rest", 1), ("visit", 0), ("get", 1, 0), ["send", 0, 1], ("send", 0)):
                self.told(("deed", total), SUMS, SLOW, (works, long + (wrong,)))
                self.told(("deed", total - 1), SUMS, SLOW, (works, long[:-1] + (wrong,) + long[-1:]))
        for total in (399, 400, 401, 402, 3000):
            self.told("whole", SUMS, SLOW, ((True, False), (("send", 0, 1),) * total))
            self.told(("deed", total), SUMS, SLOW, ((True, False), (("send", 0, 1),) * total + (("visit", 0),)))

    def test_many_rounds_ahead(self):
        # A run that is too early only behind more than 400 deeds: it is long, but whole.
        book = ((), ((False, WORDS), CALM))
        deeds = (("visit", 0), ("visit", 1), ("send", 0, 1)) * 140 + (("rest", 0),) + (("visit", 0), ("visit", 1)) * 2
        self.assertEqual(course_of(book, SLOW, (True, False), deeds)[0].said, "early")
        self.told("long", book, SLOW, ((True, False), deeds))
        self.told("whole", book, SLOW, ((True, False), deeds[:-1]))
        self.told(("deed", 425), book, SLOW, ((True, False), deeds + (("visit", 0),)))


class ChangedRuns(JudgeCase):
    def test_told_runs(self):
        for book, world, run in told_runs(6):
            self.told(None, book, world, run)

    def test_left_out_put_in_exchanged_cut_off(self):
        draw, told = random.Random(1911), {}
        for book, world, (works, deeds) in told_runs(4)[::2]:
            many = len(works)
            machines = range(many)
            pieces = [("rest", draw.choice(machines)), ("visit", draw.choice(machines))]
            pieces += [(word,) + tuple(draw.sample(machines, 2)) for word in ("send", "get")]
            changed = [deeds[:at] + deeds[at + 1:] for at in range(len(deeds))]
            changed += [deeds[:at] for at in range(len(deeds))]
            changed += [deeds[:at] + (piece,) + deeds[at:] for at in range(len(deeds) + 1) for piece in pieces]
            changed += [deeds[:at] + (piece,) + deeds[at + 1:] for at in range(len(deeds)) for piece in pieces]
            changed += [
                deeds[:at] + deeds[at + 1:at + 2] + deeds[at:at + 1] + deeds[at + 2:] for at in range(len(deeds))
            ]
            for other in changed:
                error = self.judged(book, world, (works, other))
                told[error if type(error) is str or error is None else error[0]] = True
            for i in machines:
                turned = works[:i] + (not works[i],) + works[i + 1:]
                self.judged(book, world, (turned, deeds))
        self.assertEqual(set(told), {None, "deed", "whole"})

    def test_deeds_behind_the_end(self):
        draw, told = random.Random(1912), {}
        for book, world, (works, deeds) in told_runs(5)[::2]:
            course, _ = course_of(book, world, works, deeds)
            longer = deeds
            while len(longer) < 2 * len(works) + 20:
                can = course.deeds()
                if not can:
                    break
                deed = draw.choice([deed for deed in can if deed[0] != "rest"] or can)
                self.assertNotEqual(deed[0], "visit")
                course.do(deed)
                longer += (deed,)
                told[self.judged(book, world, (works, longer))] = True
                self.judged(book, world, (works, longer + (("visit", draw.randrange(len(works))),)))
        self.assertEqual(set(told), {None, "long"})

    def test_by_other_books_and_worlds(self):
        draw, told = random.Random(1913), {}
        runs = told_runs(3)
        for book, world, (works, deeds) in runs:
            for _ in range(6):
                other = (draw.choice((book[0], book[0][:1], ())), tuple(
                    draw.choice((manner, draw.choice(MANNERS))) for manner in book[1]))
                error = self.judged(other, draw.choice(WORLDS), (works, deeds))
                told[error if type(error) is str or error is None else error[0]] = True
        self.assertEqual(set(told), {None, "deed", "whole"})
        for book, world, run in runs[::9]:
            self.told("works", (book[0], book[1] + (CALM,)), world, run)

    def test_parts_of_what_is_returned(self):
        for book, world, run in told_runs(3)[::8]:
            works, deeds = run
            for value in (works, deeds, (run, run), (deeds, works), (works, (run,)), (works, deeds, ()), list(run),
                          (list(works), deeds), (works, list(deeds)), (works, tuple(list(deed) for deed in deeds))):
                self.told(losing_error_told(book, world, value), book, world, value)


if __name__ == "__main__":
    unittest.main()
