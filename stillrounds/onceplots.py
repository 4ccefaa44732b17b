"""How a book that falls to a row of roads at once is misled: tours, and the letters sent in their gaps.

Each plot takes the number of machines, the row's entries, and the machine of each; it returns a pair as those of slow
roads do. In each of them a machine sends, between its two visits, to one behind its second visit: the second round
tells this letter as sent alone, and nobody tells whom it woke. Where that round has to be balanced a letter that
crosses it, told as got alone, makes up for that.
"""

from stillrounds.placing import beside, thirds
from stillrounds.twotours import plain_tours, tour_between


def missed(many, sender, getters):
    """The sender wakes the machine 0 behind its second visit, and this one sends to the getters ahead of theirs."""
    return [(many + 1, ("send", sender, 0))] + [(many + 1, ("send", 0, getter)) for getter in getters]


def woken_by_last(many, entries, machines):
    """The last machine, not yet visited, wakes one that was."""
    moves = [(many - 1, ("send", many - 1, machines[0]))]
    return (plain_tours(many), moves + missed(many, machines[0], machines[1:]))


def both_woken_by_last(many, entries, machines):
    """The last machine wakes two that were visited, and gets as many letters from one of them."""
    answering, sender, last = machines[0], machines[1], many - 1
    moves = [
        (last, ("send", last, answering)),
        (last, ("send", last, sender)),
        (last, ("send", answering, last)),
        (last, ("send", answering, last)),
    ]
    return (plain_tours(many), moves + missed(many, sender, machines[2:]))


def woken_by_woken(many, entries, machines):
    """The last machine wakes one that was visited, and gets a letter from it; that one then wakes another one."""
    waker, sender = machines
    moves = [
        (many - 1, ("send", many - 1, waker)),
        (many - 1, ("send", waker, many - 1)),
        (many, ("send", waker, sender)),
    ]
    return (plain_tours(many), moves + missed(many, sender, (sender,)))


def only_awake(many, entries, machines):
    """Who was visited working goes on."""
    return (plain_tours(many), missed(many, machines[0], machines[1:]))


def awake_and_woken(many, entries, machines):
    """Who was visited working sends to the last machine, and this one wakes another one that was visited."""
    moves = [(many - 1, ("send", machines[0], many - 1)), (many - 1, ("send", many - 1, machines[1]))]
    return (plain_tours(many), moves + missed(many, machines[1], machines[2:]))


def woken_by_awake(many, entries, machines):
    """Who was visited working wakes another one."""
    waker, sender = machines
    return (plain_tours(many), [(many, ("send", waker, sender))] + missed(many, sender, (sender,)))


def woken_anew(many, entries, machines):
    """A machine, visited first, is woken by one that is not yet visited."""
    machine = machines[0]
    got, sent = entries[0][1]
    waker, receiver = beside(machine, got), beside(machine, sent)
    tours = (tour_between(many, machine, waker), tour_between(many, receiver, machine))
    return (tours, [(1, ("send", waker, machine)), (many + 1, ("send", machine, receiver))])


def missed_anew(many, sender, receiver, second_sender, getter):
    """The receiver, visited first in the second round, is woken; the getter, visited last, gets a letter ahead of that.

    If the receiver is not on the side from which the getter is to get it wakes the second sender for that.
    """
    moves = [(many + 1, ("send", sender, receiver))]
    if second_sender != receiver:
        moves.append((2 * many - 1, ("send", receiver, second_sender)))
    return moves + [(2 * many - 1, ("send", second_sender, getter))]


def balanced_anew(many, entries, machines):
    """A machine, visited first, is woken, and sends as many letters across the first round as wake it."""
    machine = machines[0]
    got, sent = entries[0][1]
    waker, receiver = beside(machine, got), beside(machine, sent)
    tours = (tour_between(many, machine, waker), tour_between(many, receiver, machine))
    moves = [(1, ("send", waker, machine)), (1, ("send", machine, receiver))]
    return (tours, moves + missed_anew(many, machine, receiver, waker, machine))


def awake_anew(many, entries, machines):
    """Who was visited working sends to one that was visited twice."""
    machine = machines[0]
    receiver = beside(machine, entries[0][1][0])
    tours = (tour_between(many, machine, receiver), tour_between(many, receiver, machine))
    return (tours, [(many + 1, ("send", machine, receiver))])


def awake_and_third(many, entries, machines):
    """Who was visited working wakes a third machine, by which another one gets a letter ahead of its visit."""
    machine, getter = machines
    third = thirds(many, entries, machines)[0]
    second_sender = beside(getter, entries[1][1][0])
    tours = (tour_between(many, machine, third), tour_between(many, third, getter))
    return (tours, missed_anew(many, machine, third, second_sender, getter))


# A plot for each row, in the order of the rows.
ONCE_ALIKE_PLOTS = (
    woken_by_last, woken_by_last, both_woken_by_last, both_woken_by_last, woken_by_woken, only_awake,
    only_awake, awake_and_woken, awake_and_woken, woken_by_awake,
)
ONCE_ANEW_PLOTS = (
    woken_anew, woken_anew, woken_anew, woken_anew, balanced_anew, balanced_anew, balanced_anew, balanced_anew,
    awake_anew, awake_anew, awake_and_third, awake_and_third, awake_and_third, awake_and_third,
)
