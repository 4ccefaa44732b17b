"""What keepers are to tell, worked out apart from the package; and what can be read of a keeper."""

import random

from tests.bookkinds import WORLDS
from tests.courses import course_of
from tests.model import random_book

SLOW = ("slow", "alike")
QUIET = (True, ())
COUNTED = ((("G1", "S1"),), (QUIET, QUIET))
NO_DEEDS = [
    None, True, 0, "rest 0", [], {}, (), ("rest",), ("rest", True), ("rest", 7), ["rest", 0], ("send", 0, 0),
    ("visit", 0, 1), ("visit", -1), ("get", 0), ("stop", 0), (("rest", 0),), ("rest", "0"), ("visit", 10 ** 399),
]


def shown(keeper):
    """All that can be read of a keeper."""
    return repr((
        keeper.book, keeper.world, keeper.works, keeper.standing, keeper.deeds, keeper.version, keeper.undone,
        keeper.opened(), keeper.still(),
    ))


class Own:
    """What a keeper is to tell, worked out by courses from the start on."""

    def __init__(self, book, world, works):
        self.book, self.world, self.works = book, world, works
        self.stand, self.back = [], []

    def twin(self):
        other = Own(self.book, self.world, self.works)
        other.stand, other.back = self.stand[:], self.back[:]
        return other

    def course(self):
        return course_of(self.book, self.world, self.works, self.stand)[0]

    def do(self, deed):
        if not self.course().can(deed):
            return f"raises Refused({deed!r})"
        if len(self.stand) == 60:
            return "raises TooManyEdits()"
        self.stand.append(deed)
        self.back = []
        return repr(len(self.stand))

    def undo(self):
        if not self.stand:
            return "raises NothingToUndo()"
        self.back.append(self.stand.pop())
        return repr(len(self.stand))

    def redo(self):
        if not self.back:
            return "raises NothingToRedo()"
        self.stand.append(self.back.pop())
        return repr(len(self.stand))

    def shown(self):
        course = self.course()
        return repr((
            self.book, self.world, self.works, course.standing(), tuple(self.stand), len(self.stand), len(self.back),
            tuple(sorted(course.deeds())), not any(course.busy) and not any(course.roads.values()),
        ))


def kept_runs(seed, how_many):
    """Books, worlds and starts of two to six machines in all four worlds."""
    draw = random.Random(seed)
    for at in range(how_many):
        many = 2 + at // 4 % 5
        yield random_book(draw, many), WORLDS[at % 4], tuple(draw.random() < 0.7 for _ in range(many)), draw
