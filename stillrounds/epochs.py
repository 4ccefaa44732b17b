"""Lists of letters, told by the epochs in which they are sent and got, and which of them come.

Looked at are two rounds of waiting machines, with slow roads and tours alike. A letter is a quadruple (sender, epoch
of the sender, receiver, epoch of the receiver). The gap t is the time behind t visits and ahead of the next one.
"""

from stillrounds.bounds import MAX_LISTED
from stillrounds.shapes import is_count, is_machine, is_tuple_of

# What stands in the place of the receiver's epoch if the letter is not got.
NOT_GOT = 3


def is_letter(many, value):
    """Whether value is a letter between two of many machines."""
    if not is_tuple_of(value, 4):
        return False
    sender, sent_in, receiver, got_in = value
    if not is_machine(sender, many) or not is_machine(receiver, many) or sender == receiver:
        return False
    return is_count(sent_in) and sent_in < NOT_GOT and is_count(got_in) and got_in <= NOT_GOT


def list_error(many, value):
    """The first thing that is wrong with value as a list of letters of many machines; None if it is one."""
    if not isinstance(value, tuple):
        return "form"
    if len(value) > MAX_LISTED:
        return "long"
    for k, letter in enumerate(value):
        if not is_letter(many, letter):
            return ("letter", k)
    in_order = all([ahead <= behind for ahead, behind in zip(value, value[1:])])
    return None if in_order else "order"


def first_gap(many, machine, epoch):
    return 0 if epoch == 0 else (epoch - 1) * many + machine + 1


def last_gap(many, machine, epoch):
    return min(epoch * many + machine, 2 * many)


def gap_got(many, letter, gap):
    """The first gap at which a letter that is sent in gap can be got as told; None if there is none."""
    _, _, receiver, got_in = letter
    found = max(gap, first_gap(many, receiver, got_in))
    return found if found <= last_gap(many, receiver, got_in) else None


def first_woken(many, some, gaps, machine, epoch):
    """The first gap at which machine is woken in epoch, if letters are sent in gaps; None if it is not woken."""
    found = []
    for letter in some:
        sender, sent_in = letter[:2]
        if letter[2:] == (machine, epoch) and gaps[sender][sent_in] is not None:
            gap = gap_got(many, letter, gaps[sender][sent_in])
            if gap is not None:
                found.append(gap)
    return min(found, default=None)


def woken(many, some):
    """For each machine the first gaps at which it can be woken in its three epochs; None where it cannot."""
    # Begun with nobody woken, what is found last are the greatest gaps: nobody is woken but by who was woken.
    gaps, found = None, ((0, None, None),) * many
    while found != gaps:
        gaps = found
        found = tuple([
            (0, first_woken(many, some, gaps, machine, 1), first_woken(many, some, gaps, machine, 2))
            for machine in range(many)
        ])
    return gaps


def is_in_time(many, gaps, letter):
    """Whether letter can be sent, and got as told, where the machines are woken in gaps."""
    gap = gaps[letter[0]][letter[1]]
    if gap is None:
        return False
    return letter[3] == NOT_GOT or gap_got(many, letter, gap) is not None


def comes(many, some):
    """Whether some run of many machines has this list of letters."""
    gaps = woken(many, some)
    return all([is_in_time(many, gaps, letter) for letter in some])


def sums_of(many, some):
    """How many letters were sent, and got, by what the first round and the second one tell."""
    sent_in = [letter[1] for letter in some]
    got_in = [letter[3] for letter in some]
    return (
        sent_in.count(0), got_in.count(0),
        sent_in.count(0) + sent_in.count(1), got_in.count(0) + got_in.count(1),
    )
