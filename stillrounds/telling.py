"""What a shell tells of its keeper, in words."""

from stillrounds.errors import Unfit
from stillrounds.runtexts import deed_line, run_text


def yes_or_no(asked):
    return "yes" if asked else "no"


def listed(told, sign):
    """The strings with sign between two; "none" if there are none."""
    return sign.join(told) if told else "none"


def sums_told(sent, got):
    return f"{sent} {got}"


def machine_told(keeper, machine):
    """Of one machine: whether it works, how many letters it has sent and got, what it has noted."""
    if machine >= len(keeper.works):
        raise Unfit()
    works, sent, got, noted = keeper.standing[0][machine]
    told = ("works " if works else "rests ") + sums_told(sent, got)
    return told + ": " + ", ".join(noted) if noted else told


def letters_told(keeper):
    """How many letters are under way between which machines."""
    return listed([f"{sender}>{receiver} {many}" for sender, receiver, many in keeper.standing[1]], ", ")


def tour_told(keeper):
    """Of the round that goes on: the machines visited, the sums so far, whether it is spoilt."""
    visited, sent, got, spoilt = keeper.standing[2]
    told = listed([str(machine) for machine in visited], " ") + "; " + sums_told(sent, got)
    return told + "; spoilt" if spoilt else told


def before_told(keeper):
    """The sums of the round before."""
    before = keeper.standing[3]
    return "none" if before is None else sums_told(before[0], before[1])


def said_told(keeper):
    """Whether it has been said that all is still."""
    return keeper.standing[4]


def still_told(keeper):
    """Whether all is still."""
    return yes_or_no(keeper.still())


def open_told(keeper):
    """The deeds that can be done."""
    return listed([deed_line(deed) for deed in keeper.opened()], ", ")


def run_told(keeper):
    """The text of the run that stands."""
    return run_text(keeper.works, keeper.deeds)


TOLD = {
    "letters": letters_told,
    "tour": tour_told,
    "before": before_told,
    "said": said_told,
    "still": still_told,
    "open": open_told,
    "run": run_told,
}


def told_of(keeper, word):
    """What word asks of the keeper."""
    tell = TOLD[word]
    return tell(keeper)
