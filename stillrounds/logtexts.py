"""Logs of calls of a keeper: as texts and back, and the keeper behind them."""

from stillrounds.bounds import MAX_EDITS
from stillrounds.errors import BadLog, BadText, StillError
from stillrounds.keepers import Keeper
from stillrounds.runtexts import deed_line, deed_of
from stillrounds.shapes import is_tuple_of

UNDO = ("undo",)
REDO = ("redo",)


def call_line(call):
    return deed_line(call[1]) if call[0] == "do" else call[0]


def log_text(log):
    """The text of a log: for each call a line with a line feed behind it."""
    return "".join([call_line(call) + "\n" for call in log])


def call_of(line, many):
    """The call, for many machines, that line tells; None if it tells none."""
    if (line,) in (UNDO, REDO):
        return (line,)
    deed = deed_of(line, many)
    return None if deed is None else ("do", deed)


def lines_of(text):
    """What line feeds part, the last one left out if it is empty."""
    lines = text.split("\n")
    return lines[:-1] if lines[-1] == "" else lines


def read_log(many, value):
    """The log, for many machines, whose text value is."""
    if not isinstance(value, str):
        raise BadText(0)
    log = []
    for number, line in enumerate(lines_of(value)):
        call = call_of(line, many)
        if call is None or number >= 4 * MAX_EDITS:
            raise BadText(number)
        log.append(call)
    return tuple(log)


def is_call(value):
    """Whether value has the form of a call, whatever deed stands in it."""
    return value in (UNDO, REDO) or (is_tuple_of(value, 2) and value[0] == "do")


def make_call(keeper, call):
    if call == UNDO:
        keeper.undo()
    elif call == REDO:
        keeper.redo()
    else:
        keeper.do(call[1])


def keeper_behind(book, world, works, value):
    """A new keeper on which the calls of value were made, one behind another."""
    keeper = Keeper(book, world, works)
    if not isinstance(value, tuple):
        raise BadLog(0)
    for place, call in enumerate(value):
        if not is_call(call):
            raise BadLog(place)
        try:
            make_call(keeper, call)
        except StillError:
            raise BadLog(place) from None
    return keeper
