"""What judges of runs share: how far a value can be done as a run."""

from stillrounds.bounds import MAX_DEEDS
from stillrounds.errors import Refused
from stillrounds.moving import after
from stillrounds.shapes import are_works, is_tuple_of
from stillrounds.standings import start


def has_run_form(value, many):
    """Whether value is a pair of what tells who of many machines works at first, and a tuple."""
    return is_tuple_of(value, 2) and are_works(value[0], many) and isinstance(value[1], tuple)


def led_as_far(book, world, works, deeds):
    """The standing behind deeds, and None; if one cannot be done, the standing ahead of it, and its place."""
    standing = start(works)
    for place, deed in enumerate(deeds):
        try:
            standing = after(book, world, standing, deed)
        except Refused:
            return (standing, place)
    return (standing, None)


def led_in_bounds(book, world, works, deeds):
    """The same, where no run has more than MAX_DEEDS deeds."""
    standing, place = led_as_far(book, world, works, deeds[:MAX_DEEDS])
    if place is None and len(deeds) > MAX_DEEDS:
        place = MAX_DEEDS
    return (standing, place)
