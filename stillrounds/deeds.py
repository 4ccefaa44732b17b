"""The form of deeds, whether they can be done or not."""

from stillrounds.shapes import is_machine

# How many items a deed has, its word counted.
DEED_SIZES = {"get": 3, "rest": 2, "send": 3, "visit": 2}


def has_form(value):
    """Whether value is a tuple that begins with a word of deeds and has as many items as that asks."""
    if not isinstance(value, tuple) or not value or not isinstance(value[0], str):
        return False
    return DEED_SIZES.get(value[0]) == len(value)


def has_machines(deed, many):
    """Whether the items behind the word are unlike ones of many machines."""
    machines = deed[1:]
    if not all([is_machine(machine, many) for machine in machines]):
        return False
    return len(machines) == 1 or machines[0] != machines[1]


def all_deeds(many):
    """The ascending list of all deeds of many machines."""
    alone = [(word, i) for word in ("rest", "visit") for i in range(many)]
    paired = [(word, i, j) for word in ("get", "send") for i in range(many) for j in range(many) if i != j]
    return sorted(alone + paired)
