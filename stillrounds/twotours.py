"""Runs of two rounds, made of letters and of the gaps in which they are sent and got.

The gap t is the time behind t visits, from 0 on: the first round has the gaps 0 to n - 1 ahead of its visits, the
second one n to 2 n - 1, n being the number of machines.
"""


def plain_tours(many):
    """The tours of two rounds where tours are alike."""
    return (tuple(range(many)), tuple(range(many)))


def tour_between(many, first, last):
    """A tour of many machines that begins with first and ends with last."""
    return (first,) + tuple([i for i in range(many) if i != first and i != last]) + (last,)


def gap_behind_first(tours, machine):
    """The first gap behind the visit of machine in the first round."""
    return tours[0].index(machine) + 1


def gap_behind_second(tours, machine):
    """The first gap behind the visit of machine in the second round."""
    return len(tours[0]) + tours[1].index(machine) + 1


def works_at_first(tours, moves, awake):
    """Who works at first: who is to be awake, and who sends ahead of its first visit."""
    senders = [deed[1] for gap, deed in moves if deed[0] == "send" and gap < gap_behind_first(tours, deed[1])]
    return tuple([machine == awake or machine in senders for machine in range(len(tours[0]))])


def led_through(roads, tours, moves, awake):
    """The run of these two tours with these moves, pairs of a gap and a send or a get, in order.

    Who works rests right ahead of each of its visits; but the machine awake is visited working in the first round.
    """
    works = works_at_first(tours, moves, awake)
    busy, deeds = list(works), []
    for gap, machine in enumerate(tours[0] + tours[1]):
        for deed in [move for when, move in moves if when == gap]:
            deeds.append(deed)
            if deed[0] == "get" or roads == "at once":
                busy[deed[2]] = True
        if busy[machine] and (machine != awake or gap >= len(works)):
            busy[machine] = False
            deeds.append(("rest", machine))
        deeds.append(("visit", machine))
    return (works, tuple(deeds))
