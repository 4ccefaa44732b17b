"""What is wrong with a value as a losing run."""

from stillrounds.judging import led_as_far
from stillrounds.shapes import are_works, is_tuple_of


def most_losing_deeds(many):
    """How many deeds a losing run of many machines may have."""
    return 2 * many + 16


def losing_error(book, world, value):
    """The first thing that is wrong with value as a losing run of book in world; None if it is one."""
    if not is_tuple_of(value, 2) or not isinstance(value[1], tuple):
        return "form"
    works, deeds = value
    many = len(book[1])
    if not are_works(works, many):
        return "works"
    # A losing run may be judged to be too long only behind all its deeds, however many they are.
    standing, place = led_as_far(book, world, works, deeds)
    if place is not None:
        return ("deed", place)
    if standing[4] != "early":
        return "whole"
    return "long" if len(deeds) > most_losing_deeds(many) else None
