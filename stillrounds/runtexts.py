"""Runs as texts, and back."""

from stillrounds.bounds import MAX_DEEDS, MAX_MACHINES
from stillrounds.deeds import has_form, has_machines
from stillrounds.errors import BadText
from stillrounds.shapes import is_many

START_HEAD = "start "
# Only these signs tell machines: int() would take "01" and "+1", too.
MACHINES = {"0": 0, "1": 1, "2": 2, "3": 3, "4": 4, "5": 5}


def deed_line(deed):
    return " ".join([deed[0]] + [str(machine) for machine in deed[1:]])


def run_text(works, deeds):
    """The text of a run: a line for its start, then one for each deed."""
    signs = "".join(["w" if each else "r" for each in works])
    return "\n".join([START_HEAD + signs] + [deed_line(deed) for deed in deeds])


def works_of(line):
    """Which machines work at the start that line tells; None if it is not built as told."""
    if not line.startswith(START_HEAD):
        return None
    signs = line[len(START_HEAD):]
    if not is_many(len(signs)) or not all([sign in ("w", "r") for sign in signs]):
        return None
    return tuple([sign == "w" for sign in signs])


def deed_of(line, many):
    """The deed of many machines that line tells; None if it is not built as told."""
    words = line.split(" ")
    deed = tuple([words[0]] + [MACHINES.get(word) for word in words[1:]])
    return deed if has_form(deed) and has_machines(deed, many) else None


def read_run(value):
    """The run whose text value is."""
    if not isinstance(value, str):
        raise BadText(0)
    lines = value.split("\n")
    works = works_of(lines[0])
    if works is None:
        raise BadText(0)
    deeds = []
    for number, line in enumerate(lines[1:], start=1):
        deed = deed_of(line, MAX_MACHINES)
        if deed is None or number > MAX_DEEDS:
            raise BadText(number)
        deeds.append(deed)
    return (works, tuple(deeds))
