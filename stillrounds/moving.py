"""Deeds: which can be done, and the standing behind them."""

from stillrounds.books import NOTES
from stillrounds.bounds import MAX_DEEDS
from stillrounds.deeds import all_deeds, has_form, has_machines
from stillrounds.errors import Refused, TooMany
from stillrounds.parts import with_item
from stillrounds.standings import NEW_TOUR, start


def letters_between(letters, sender, receiver):
    """How many letters are under way from sender to receiver."""
    for one, other, many in letters:
        if (one, other) == (sender, receiver):
            return many
    return 0


def with_letters(letters, sender, receiver, many):
    """letters, where now so many are under way from sender to receiver."""
    roads = [road for road in letters if road[:2] != (sender, receiver)]
    if many > 0:
        roads.append((sender, receiver, many))
    return tuple(sorted(roads))


def with_note(noted, word):
    return tuple([each for each in NOTES if each == word or each in noted])


def having_sent(sites, sender, receiver):
    """The sites when sender has sent a letter to receiver."""
    works, sent, got, noted = sites[sender]
    word = "sent lower" if receiver < sender else "sent higher"
    return with_item(sites, sender, (works, sent + 1, got, with_note(noted, word)))


def having_got(sites, sender, receiver):
    """The sites when receiver has got a letter from sender: it works from then on."""
    _, sent, got, noted = sites[receiver]
    word = "got lower" if sender < receiver else "got higher"
    return with_item(sites, receiver, (True, sent, got + 1, with_note(noted, word)))


def visit_error(book, world, standing, machine):
    """Why machine cannot be visited; None if it can be."""
    visited = standing[2][0]
    if standing[4] != "no":
        return "said"
    if machine in visited or (world[1] == "alike" and machine != len(visited)):
        return "turn"
    waits = book[1][machine][0]
    works = standing[0][machine][0]
    return "works" if waits and works else None


def get_error(world, letters, sender, receiver):
    """Why receiver cannot get a letter from sender; None if it can."""
    if world[0] == "at once":
        return "roads"
    return None if letters_between(letters, sender, receiver) else "nothing"


def deed_error(book, world, standing, value):
    """Why value is no deed that can be done; None if it is one."""
    if not has_form(value):
        return "form"
    if not has_machines(value, len(book[1])):
        return "machine"
    word, machine = value[0], value[1]
    if word == "visit":
        return visit_error(book, world, standing, machine)
    if word == "get":
        return get_error(world, standing[1], machine, value[2])
    return None if standing[0][machine][0] else "rests"


def open_deeds(book, world, standing):
    """All deeds that can be done."""
    return tuple([deed for deed in all_deeds(len(book[1])) if deed_error(book, world, standing, deed) is None])


def tests_hold(tests, before, now):
    """Whether all tests hold of the sums (sent, got) of two rounds."""
    sums = {"S1": before[0], "G1": before[1], "S2": now[0], "G2": now[1]}
    return all([sums[one] == sums[other] for one, other in tests])


def is_all_still(sites, letters):
    """Whether nobody works and no letter is under way."""
    return not letters and not any([site[0] for site in sites])


def round_ended(tests, sites, letters, tour, before):
    """The standing behind a round: it is said that all is still, or a new round begins."""
    _, sent, got, spoilt = tour
    if before is not None and not spoilt and tests_hold(tests, before, (sent, got)):
        said = "right" if is_all_still(sites, letters) else "early"
        return (sites, letters, tour, before, said)
    return (sites, letters, NEW_TOUR, (sent, got), "no")


def tour_behind(book, standing, machine):
    """The tour that goes on in standing, when machine has been visited, too."""
    visited, sent, got, spoilt = standing[2]
    works, own_sent, own_got, noted = standing[0][machine]
    spoils = works or any([word in book[1][machine][1] for word in noted])
    return (visited + (machine,), sent + own_sent, got + own_got, spoilt or spoils)


def visit_done(book, standing, machine):
    sites, letters, _, before, said = standing
    works, sent, got, _ = sites[machine]
    tour = tour_behind(book, standing, machine)
    sites = with_item(sites, machine, (works, sent, got, ()))
    if len(tour[0]) == len(sites):
        return round_ended(book[0], sites, letters, tour, before)
    return (sites, letters, tour, before, said)


def send_done(world, standing, sender, receiver):
    sites, letters, tour, before, said = standing
    sites = having_sent(sites, sender, receiver)
    if world[0] == "at once":
        return (having_got(sites, sender, receiver), letters, tour, before, said)
    many = letters_between(letters, sender, receiver) + 1
    return (sites, with_letters(letters, sender, receiver, many), tour, before, said)


def get_done(standing, sender, receiver):
    sites, letters, tour, before, said = standing
    many = letters_between(letters, sender, receiver) - 1
    return (having_got(sites, sender, receiver), with_letters(letters, sender, receiver, many), tour, before, said)


def rest_done(standing, machine):
    sites, letters, tour, before, said = standing
    _, sent, got, noted = sites[machine]
    return (with_item(sites, machine, (False, sent, got, noted)), letters, tour, before, said)


def after(book, world, standing, deed):
    """The standing behind deed."""
    if deed_error(book, world, standing, deed) is not None:
        raise Refused(deed)
    word, machine = deed[0], deed[1]
    if word == "visit":
        return visit_done(book, standing, machine)
    if word == "rest":
        return rest_done(standing, machine)
    if word == "send":
        return send_done(world, standing, machine, deed[2])
    return get_done(standing, machine, deed[2])


def led(book, world, works, deeds):
    """The standing behind all deeds, done one behind another from the start."""
    if len(deeds) > MAX_DEEDS:
        raise TooMany(MAX_DEEDS)
    standing = start(works)
    for deed in deeds:
        standing = after(book, world, standing, deed)
    return standing
