"""All standings that come with few letters, gone through layer by layer."""

from stillrounds.bounds import MAX_COME, MAX_LETTERS
from stillrounds.errors import TooMany, Unfit
from stillrounds.moving import after, open_deeds
from stillrounds.shapes import is_integer
from stillrounds.standings import start


def all_works(many):
    """All ways in which many machines can work at first."""
    found = [()]
    for _ in range(many):
        found = [works + (each,) for works in found for each in (False, True)]
    return found


def letters_sent(standing):
    return sum([site[1] for site in standing[0]])


def few_deeds(book, world, standing, letters):
    """The deeds that can be done in standing, with at most so many letters sent in all."""
    deeds = open_deeds(book, world, standing)
    if letters_sent(standing) < letters:
        return deeds
    return tuple([deed for deed in deeds if deed[0] != "send"])


def next_layer(book, world, letters, layer, met):
    """The standings one deed behind those of layer that were not met ahead; met learns what led to them."""
    found = []
    for standing in layer:
        for deed in few_deeds(book, world, standing, letters):
            behind = after(book, world, standing, deed)
            if behind not in met:
                met[behind] = (standing, deed)
                found.append(behind)
        # All that come are not waited for: they may be very many.
        if len(met) > MAX_COME:
            raise TooMany(MAX_COME)
    return found


def all_met(book, world, starts, letters):
    """All standings that come from starts, by fewest deeds ahead, each with the standing ahead and the deed."""
    if not is_integer(letters) or not 0 <= letters <= MAX_LETTERS:
        raise Unfit()
    layer = [start(works) for works in starts]
    met = {standing: None for standing in layer}
    while layer:
        layer = next_layer(book, world, letters, layer, met)
    return met


def run_to(met, standing):
    """The run of fewest deeds by which standing was met."""
    deeds = []
    step = met[standing]
    while step is not None:
        standing, deed = step
        deeds.append(deed)
        step = met[standing]
    works = tuple([site[0] for site in standing[0]])
    return (works, tuple(deeds[::-1]))


def come(book, world, works, letters):
    """How many standings come from works with at most so many letters."""
    return len(all_met(book, world, [works], letters))


def earliest(book, world, letters):
    """A shortest run behind which it is said too early, with at most so many letters; None if there is none."""
    met = all_met(book, world, all_works(len(book[1])), letters)
    for standing in met:
        if standing[4] == "early":
            return run_to(met, standing)
    return None
