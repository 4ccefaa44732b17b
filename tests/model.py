"""A standing worked out anew from all that has happened, as the document describes it, not deed by deed."""

import random
from itertools import permutations

from tests.bookkinds import LOTS, MANNERS, WORLDS


def events_of(world, deeds):
    """The deeds, where a letter that is got at once is a get of its own behind its send."""
    events = []
    for deed in deeds:
        events.append(deed)
        if deed[0] == "send" and world[0] == "at once":
            events.append(("get", deed[1], deed[2]))
    return events


def works_behind(works, events, machine):
    state = works[machine]
    for event in events:
        if event == ("rest", machine):
            state = False
        if event[0] == "get" and event[2] == machine:
            state = True
    return state


def sent_behind(events, machine):
    return sum(event[0] == "send" and event[1] == machine for event in events)


def got_behind(events, machine):
    return sum(event[0] == "get" and event[2] == machine for event in events)


def noted_behind(events, machine):
    """What has happened to machine since its last visit."""
    words = set()
    for event in events:
        if event == ("visit", machine):
            words = set()
        if event[0] == "send" and event[1] == machine:
            words.add("sent lower" if event[2] < machine else "sent higher")
        if event[0] == "get" and event[2] == machine:
            words.add("got lower" if event[1] < machine else "got higher")
    return tuple(sorted(words))


def letters_behind(events, many):
    found = []
    for sender, receiver in permutations(range(many), 2):
        letters = events.count(("send", sender, receiver)) - events.count(("get", sender, receiver))
        if letters:
            found.append((sender, receiver, letters))
    return tuple(sorted(found))


def tour_behind(book, works, events, visits):
    """What a round with these visits, places among events, has told."""
    machines, sent, got, spoilt = [], 0, 0, False
    for at in visits:
        machine, ahead = events[at][1], events[:at]
        machines.append(machine)
        sent += sent_behind(ahead, machine)
        got += got_behind(ahead, machine)
        noted = set(noted_behind(ahead, machine)) & set(book[1][machine][1])
        spoilt = spoilt or works_behind(works, ahead, machine) or bool(noted)
    return (tuple(machines), sent, got, spoilt)


def still_behind(works, events, many):
    return not letters_behind(events, many) and not any(works_behind(works, events, i) for i in range(many))


def said_behind(book, works, ahead, now, events):
    """What is said at the end of the round now, behind the round ahead."""
    if ahead is None or now[3]:
        return "no"
    sums = {"S1": ahead[1], "G1": ahead[2], "S2": now[1], "G2": now[2]}
    if any(sums[one] != sums[other] for one, other in book[0]):
        return "no"
    return "right" if still_behind(works, events, len(works)) else "early"


def standing_behind(book, world, works, deeds):
    """The standing behind deeds that can be done."""
    many, events = len(works), events_of(world, deeds)
    visits = [at for at, event in enumerate(events) if event[0] == "visit"]
    rounds = [tour_behind(book, works, events, visits[at:at + many]) for at in range(0, len(visits), many)]
    sites = tuple(
        (works_behind(works, events, i), sent_behind(events, i), got_behind(events, i), noted_behind(events, i))
        for i in range(many)
    )
    tour, before, said = ((), 0, 0, False), None, "no"
    for at, now in enumerate(rounds):
        before = rounds[at - 1][1:3] if at > 0 else None
        tour = now
        if len(now[0]) == many:
            ended = events[:visits[at * many + many - 1] + 1]
            said = said_behind(book, works, rounds[at - 1] if at > 0 else None, now, ended)
            if said == "no":
                tour, before = ((), 0, 0, False), now[1:3]
    return (sites, letters_behind(events, many), tour, before, said)


def rounds_behind(book, world, works, deeds):
    """What each round that has ended told, and what was said at its end."""
    many, events = len(works), events_of(world, deeds)
    visits = [at for at, event in enumerate(events) if event[0] == "visit"]
    found = []
    for end in range(many, len(visits) + 1, many):
        now = tour_behind(book, works, events, visits[end - many:end])
        ahead = found[-1] if found else None
        found.append(now + (said_behind(book, works, ahead, now, events[:visits[end - 1] + 1]),))
    return tuple(found)


def words_of_deeds(many):
    """All tuples that begin with a word of deeds, and machines, right ones and some that are none."""
    machines = list(range(-1, many + 2))
    found = [(word, i) for word in ("rest", "visit") for i in machines]
    return found + [(word, i, j) for word in ("send", "get") for i in machines for j in machines]


def error_of(book, world, standing, deed):
    """What hinders deed, which has the form of one."""
    sites, letters, tour, _, said = standing
    many, word, machines = len(book[1]), deed[0], deed[1:]
    if any(type(machine) is not int or machine not in range(many) for machine in machines):
        return "machine"
    if len(machines) == 2 and machines[0] == machines[1]:
        return "machine"
    first = machines[0]
    works = sites[first][0]
    under_way = {(sender, receiver) for sender, receiver, _ in letters}
    is_next = first not in tour[0] and (world[1] == "anew" or first == len(tour[0]))
    reasons = {
        "get": [("roads", world[0] == "at once"), ("nothing", machines not in under_way)],
        "send": [("rests", not works)],
        "rest": [("rests", not works)],
        "visit": [("said", said != "no"), ("turn", not is_next), ("works", works and book[1][first][0])],
    }
    return next((name for name, applies in reasons[word] if applies), None)


def random_book(draw, many):
    """A book of many machines; every other one tests and notes little, so that more is said too early."""
    if draw.random() < 0.5:
        tests = () if draw.random() < 0.6 else draw.choice(LOTS[:7])
        return (tests, tuple((draw.random() < 0.9, ()) for _ in range(many)))
    return (draw.choice(LOTS[:22]), tuple(draw.choice(MANNERS) for _ in range(many)))


def random_run(draw, book, world, most):
    """A run of at most so many deeds: its works, its deeds, and the standing behind each."""
    many = len(book[1])
    works = tuple(draw.random() < 0.6 for _ in range(many))
    deeds, standings = [], [standing_behind(book, world, works, ())]
    lively = {"visit": draw.randint(2, 20), "rest": draw.randint(1, 6), "send": draw.randint(1, 6), "get": 4}
    while len(deeds) < most:
        can = {}
        for deed in words_of_deeds(many):
            if error_of(book, world, standings[-1], deed) is None:
                can.setdefault(deed[0], []).append(deed)
        if not can:
            break
        word = draw.choices(list(can), [lively[word] for word in can])[0]
        deeds.append(draw.choice(can[word]))
        standings.append(standing_behind(book, world, works, deeds))
    return works, tuple(deeds), standings


def random_runs(seed, how_many, most):
    """Runs of two to six machines in all four worlds: (book, world, works, deeds, standings)."""
    draw = random.Random(seed)
    runs = []
    for at in range(how_many):
        world = WORLDS[at % 4]
        book = random_book(draw, 2 + at // 4 % 5)
        runs.append((book, world) + random_run(draw, book, world, most))
    return runs
