"""Runs done deed by deed, written apart from the package; and all standings that come, gone through."""

from itertools import product


class Course:
    """What is the case behind some deeds; it changes as further ones are done."""

    def __init__(self, book, world, works):
        self.book, self.world, self.many = book, world, len(works)
        self.busy = list(works)
        self.sent, self.got = [0] * len(works), [0] * len(works)
        self.noted = [set() for _ in works]
        self.roads = {}
        self.order, self.sums, self.spoilt = [], [0, 0], False
        self.before, self.said = None, "no"

    def copy(self):
        other = Course(self.book, self.world, self.busy)
        other.sent, other.got, other.noted = self.sent[:], self.got[:], [set(words) for words in self.noted]
        other.roads, other.order, other.sums = dict(self.roads), self.order[:], self.sums[:]
        other.spoilt, other.before, other.said = self.spoilt, self.before, self.said
        return other

    def can(self, deed):
        """Whether deed, a value of whatever kind, is one that can be done."""
        sizes = {"send": 3, "get": 3, "rest": 2, "visit": 2}
        if type(deed) is not tuple or not deed or type(deed[0]) is not str or sizes.get(deed[0]) != len(deed):
            return False
        machines = deed[1:]
        if any(type(i) is not int or i < 0 or i >= self.many for i in machines) or len(set(machines)) < len(machines):
            return False
        if deed[0] == "get":
            return self.world[0] == "slow" and self.roads.get(machines, 0) > 0
        if deed[0] == "visit":
            i = deed[1]
            on_turn = i not in self.order if self.world[1] == "anew" else i == len(self.order)
            return self.said == "no" and on_turn and not (self.busy[i] and self.book[1][i][0])
        return self.busy[deed[1]]

    def do(self, deed):
        if deed[0] == "rest":
            self.busy[deed[1]] = False
        elif deed[0] == "visit":
            self.visit(deed[1])
        else:
            pair = deed[1:]
            if deed[0] == "send":
                self.sent[pair[0]] += 1
                self.noted[pair[0]].add("sent higher" if pair[1] > pair[0] else "sent lower")
                self.roads[pair] = self.roads.get(pair, 0) + 1
            if deed[0] == "get" or self.world[0] == "at once":
                self.roads[pair] -= 1
                self.got[pair[1]] += 1
                self.noted[pair[1]].add("got higher" if pair[0] > pair[1] else "got lower")
                self.busy[pair[1]] = True

    def visit(self, i):
        self.spoilt = self.spoilt or self.busy[i] or bool(self.noted[i].intersection(self.book[1][i][1]))
        self.sums = [self.sums[0] + self.sent[i], self.sums[1] + self.got[i]]
        self.noted[i] = set()
        self.order.append(i)
        if len(self.order) == self.many:
            if self.before is not None and not self.spoilt and self.tests_hold():
                self.said = "early" if any(self.busy) or any(self.roads.values()) else "right"
            else:
                self.before, self.order, self.sums, self.spoilt = tuple(self.sums), [], [0, 0], False

    def tests_hold(self):
        named = {"S1": self.before[0], "G1": self.before[1], "S2": self.sums[0], "G2": self.sums[1]}
        return all(named[one] == named[other] for one, other in self.book[0])

    def standing(self):
        sites = tuple(
            (self.busy[i], self.sent[i], self.got[i], tuple(sorted(self.noted[i]))) for i in range(self.many)
        )
        letters = tuple(sorted(pair + (many,) for pair, many in self.roads.items() if many))
        return (sites, letters, (tuple(self.order), *self.sums, self.spoilt), self.before, self.said)

    def deeds(self):
        """All deeds that can be done."""
        machines = range(self.many)
        all_deeds = [(word, i) for word in ("rest", "visit") for i in machines]
        all_deeds += [(word, i, j) for word in ("send", "get") for i in machines for j in machines]
        return [deed for deed in all_deeds if self.can(deed)]


def course_of(book, world, works, deeds):
    """The course behind deeds, and the place of the first one that cannot be done; None if all can."""
    course = Course(book, world, works)
    for place, deed in enumerate(deeds):
        if not course.can(deed):
            return course, place
        course.do(deed)
    return course, None


def losing_error_told(book, world, value):
    """What losing_error is to tell."""
    if type(value) is not tuple or len(value) != 2 or type(value[1]) is not tuple:
        return "form"
    works, deeds = value
    many = len(book[1])
    if type(works) is not tuple or len(works) != many or any(type(each) is not bool for each in works):
        return "works"
    course, place = course_of(book, world, works, deeds)
    if place is not None:
        return ("deed", place)
    if course.said != "early":
        return "whole"
    return "long" if len(deeds) > 2 * many + 16 else None


def layers_from(book, world, starts, letters, most):
    """All standings that come, layer by layer, each layer a dict of courses by their standings.

    Once there are more than most the rest is left out.
    """
    layer = {}
    for works in starts:
        course = Course(book, world, works)
        layer[course.standing()] = course
    seen, layers = set(layer), []
    while layer:
        layers.append(layer)
        behind = {}
        for course in layer.values():
            for deed in course.deeds():
                if deed[0] != "send" or sum(course.sent) < letters:
                    other = course.copy()
                    other.do(deed)
                    standing = other.standing()
                    if standing not in seen:
                        seen.add(standing)
                        behind[standing] = other
            if len(seen) > most:
                return layers + [behind]
        layer = behind
    return layers


def how_many_come(book, world, starts, letters, most=303):
    return sum(len(layer) for layer in layers_from(book, world, starts, letters, most))


def all_starts(many):
    return list(product((False, True), repeat=many))


def least_early(book, world, letters):
    """How many deeds the shortest run has that is too early; None if there is none."""
    starts = all_starts(len(book[1]))
    for deeds, layer in enumerate(layers_from(book, world, starts, letters, 10 ** 9)):
        if any(standing[4] == "early" for standing in layer):
            return deeds
    return None
