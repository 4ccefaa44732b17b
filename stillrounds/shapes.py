"""What values are, asked of values of any kind."""

from stillrounds.bounds import MAX_MACHINES


def is_integer(value):
    # To Python True and False are integers; to the document they are none.
    return isinstance(value, int) and not isinstance(value, bool)


def is_count(value):
    return is_integer(value) and value >= 0


def is_machine(value, many):
    """Whether value is one of many machines."""
    return is_integer(value) and 0 <= value < many


def is_many(value):
    """Whether there may be so many machines."""
    return is_integer(value) and 2 <= value <= MAX_MACHINES


def is_tuple_of(value, many):
    """Whether value is a tuple of many items."""
    return isinstance(value, tuple) and len(value) == many


def are_works(value, many):
    """Whether value is a tuple of many bools, which tell who works at first."""
    return is_tuple_of(value, many) and all([isinstance(each, bool) for each in value])


def is_ascending(items):
    """Whether each item is greater than the one ahead; they are of one kind."""
    return all([low < high for low, high in zip(items, items[1:])])
