"""Standings: what is the case at some time of a run."""

from stillrounds.books import is_notes
from stillrounds.shapes import is_ascending, is_count, is_integer, is_machine, is_tuple_of

NEW_TOUR = ((), 0, 0, False)
SAID = ("no", "right", "early")


def start(works):
    """The standing ahead of all deeds, in which the machines work as works tells."""
    sites = tuple([(each, 0, 0, ()) for each in works])
    return (sites, (), NEW_TOUR, None, "no")


def is_site(value):
    if not is_tuple_of(value, 4):
        return False
    works, sent, got, noted = value
    return isinstance(works, bool) and is_count(sent) and is_count(got) and is_notes(noted)


def is_road(many, value):
    """Whether value tells how many letters are under way between two of many machines."""
    if not is_tuple_of(value, 3):
        return False
    sender, receiver, letters = value
    if not is_machine(sender, many) or not is_machine(receiver, many) or sender == receiver:
        return False
    return is_integer(letters) and letters >= 1


def are_letters(many, value):
    if not isinstance(value, tuple) or not all([is_road(many, road) for road in value]):
        return False
    # With the machines alone ascending, no two of them can be there twice.
    return is_ascending([(sender, receiver) for sender, receiver, _ in value])


def is_order(many, value):
    """Whether value is a tuple of unlike ones of many machines."""
    if not isinstance(value, tuple) or not all([is_machine(machine, many) for machine in value]):
        return False
    return len(set(value)) == len(value)


def is_tour(many, value):
    if not is_tuple_of(value, 4):
        return False
    visited, sent, got, spoilt = value
    return is_order(many, visited) and is_count(sent) and is_count(got) and isinstance(spoilt, bool)


def is_before(value):
    if value is None:
        return True
    return is_tuple_of(value, 2) and is_count(value[0]) and is_count(value[1])


def sites_error(sites):
    """The first machine whose site is none; None if all are right."""
    for machine, site in enumerate(sites):
        if not is_site(site):
            return ("site", machine)
    return None


def standing_error(many, value):
    """The first thing that is wrong with the shape of value as a standing of many machines."""
    if not is_tuple_of(value, 5) or not is_tuple_of(value[0], many):
        return "form"
    sites, letters, tour, before, said = value
    error = sites_error(sites)
    if error is not None:
        return error
    if not are_letters(many, letters):
        return "letters"
    if not is_tour(many, tour):
        return "tour"
    if not is_before(before):
        return "before"
    return None if said in SAID else "said"
