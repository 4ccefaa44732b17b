"""How many visits there are behind stillness until the rounder says."""

from stillrounds.errors import Unfit
from stillrounds.judging import has_run_form, led_in_bounds
from stillrounds.moving import after
from stillrounds.placing import beside, notes_that_happen
from stillrounds.rounds import is_still


def visits_left(book, world, standing):
    """How many visits there are from a still standing on until the rounder says."""
    if not is_still(standing) or standing[4] != "no":
        raise Unfit()
    left = 0
    while standing[4] == "no":
        # The order of a round plays no part: the least machine that is left is the next one where tours are alike.
        visited = standing[2][0]
        machine = min([each for each in range(len(book[1])) if each not in visited])
        standing = after(book, world, standing, ("visit", machine))
        left += 1
    return left


def looks_back(tests):
    """Whether a test asks for a sum of the round before."""
    return any(["G1" in test or "S1" in test for test in tests])


def visits_of_spoilt(world, many, machine):
    """The most visits if a word of this machine, noted behind its first visit, spoils the second round."""
    ahead = machine if world[1] == "alike" else 0
    return (many - 1 - ahead) + 2 * many


def most_visits(book, world):
    """The greatest number of visits from a still standing on until the rounder says."""
    tests, manners = book
    many = len(manners)
    if looks_back(tests):
        return (many - 1) + 2 * many
    noted = notes_that_happen(manners)
    return visits_of_spoilt(world, many, noted[0][0]) if noted else 2 * many


def sent_and_got(world, sends):
    """The deeds by which these letters, pairs of a sender and a receiver, are sent and got, one behind another."""
    deeds = []
    for sender, receiver in sends:
        deeds.append(("send", sender, receiver))
        if world[0] == "slow":
            deeds.append(("get", sender, receiver))
    return tuple(deeds)


def woken_late(world, many, waker, visited, sends):
    """The run in which the waker works at first, and sends are done when these machines have been visited."""
    works = tuple([machine == waker for machine in range(many)])
    getters = [receiver for _, receiver in sends]
    visits = tuple([("visit", machine) for machine in visited])
    rests = tuple([("rest", machine) for machine in range(many) if machine == waker or machine in getters])
    return (works, visits + sent_and_got(world, sends) + rests)


def sends_to_spoil(waker, machine, word):
    """Letters, the first one of the waker, by which this word happens to machine."""
    other = beside(machine, word)
    if word.startswith("sent"):
        return ((waker, machine), (machine, other))
    return ((other, machine),) if other == waker else ((waker, other), (other, machine))


def spoilt_late(world, many, machine, word):
    """A run in which machine notes word behind its first visit, and everybody rests then."""
    visited = tuple(range(machine + 1)) if world[1] == "alike" else (machine,)
    waker = many - 1 if machine < many - 1 else 0
    return woken_late(world, many, waker, visited, sends_to_spoil(waker, machine, word))


def longest(book, world):
    """A run to a still standing from which most visits are left."""
    tests, manners = book
    many = len(manners)
    if looks_back(tests):
        # The first round tells 1 sent and 2 got, the second one 3 and 3: each test that looks back fails.
        return woken_late(world, many, 1, (0,), ((1, 0), (0, 1), (0, 1)))
    noted = notes_that_happen(manners)
    if noted and visits_of_spoilt(world, many, noted[0][0]) > 2 * many:
        return spoilt_late(world, many, noted[0][0], noted[0][1])
    return ((False,) * many, ())


def longest_error(book, world, value):
    """The first thing that is wrong with value as a run from which most visits are left; None if it is one."""
    if not has_run_form(value, len(book[1])):
        return "form"
    standing, place = led_in_bounds(book, world, value[0], value[1])
    if place is not None:
        return ("deed", place)
    if standing[4] != "no":
        return "said"
    if not is_still(standing):
        return "restless"
    return "fewer" if visits_left(book, world, standing) < most_visits(book, world) else None
