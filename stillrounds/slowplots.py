"""How a book that falls to a row of slow roads is misled: tours, and the letters sent and got in their gaps.

Each plot takes the kind of tours, the number of machines, the row's entries, and the machine of each; it returns a
pair: the tours of two rounds, and moves as led_through takes them. All tests of the row's equalities hold of these
rounds, nothing happens between the two visits of any machine but the words of its entries, and behind the second
round a letter is under way or somebody works.
"""

from stillrounds.placing import beside
from stillrounds.twotours import gap_behind_first, gap_behind_second, plain_tours, tour_between


def tours_of(kind, many, first, second):
    """The tours of two rounds; if they are anew each begins and ends with the machines of a pair."""
    if kind == "alike":
        return plain_tours(many)
    return (tour_between(many, first[0], first[1]), tour_between(many, second[0], second[1]))


def crossing(tours, sender, receiver):
    """The sender, visited ahead of the receiver, is woken by an old letter of it and wakes it ahead of its visit.

    So one letter is told as sent, and another one, that crosses the second round, as got.
    """
    late = gap_behind_second(tours, sender)
    return [
        (0, ("send", receiver, sender)),
        (late, ("get", receiver, sender)),
        (late, ("send", sender, receiver)),
        (late, ("get", sender, receiver)),
    ]


def letter_kept(kind, many, entries, machines):
    """A letter is under way all the time."""
    return (tours_of(kind, many, (0, 1), (0, 1)), [(0, ("send", 0, 1))])


def crossed(kind, many, entries, machines):
    """A machine gets a letter that crosses the second round."""
    receiver = machines[0]
    sender = beside(receiver, entries[0][1][0])
    tours = tours_of(kind, many, (sender, receiver), (sender, receiver))
    return (tours, crossing(tours, sender, receiver))


def passed_on(kind, many, entries, machines):
    """A machine is woken behind its visit, and sends a letter that stays under way: one was sent, another one got."""
    machine = machines[0]
    got, sent = entries[0][1]
    waker = beside(machine, got)
    tours = plain_tours(many)
    amid = gap_behind_first(tours, machine)
    moves = [
        (0, ("send", waker, machine)),
        (amid, ("get", waker, machine)),
        (amid, ("send", machine, beside(machine, sent))),
    ]
    return (tours, moves)


def sent_across(gap, sender, receiver, letters):
    """So many letters, sent by who was visited and got by who was not: they cross the first round."""
    return [(gap, ("send", sender, receiver)), (gap, ("get", sender, receiver))] * letters


def balanced_once(kind, many, entries, machines):
    """The first round is balanced: one letter is told as sent alone, one that crosses it as got alone; one is kept."""
    machine = machines[0]
    got, sent = entries[0][1]
    waker, receiver = beside(machine, got), beside(machine, sent)
    tours = plain_tours(many)
    amid = gap_behind_first(tours, machine)
    moves = [(0, ("send", waker, machine)), (amid, ("get", waker, machine))]
    moves += sent_across(amid, machine, receiver, 1)
    return (tours, moves + [(amid, ("send", machine, receiver))])


def balanced(kind, many, entries, machines):
    """Both rounds are balanced: as many letters cross them as they tell as sent alone.

    The machine of the first entry is awake, or woken by an old letter, and sends across the first round; that of the
    last entry, perhaps the same, gets what crosses the second one.
    """
    machine, second_getter = machines[0], machines[-1]
    is_awake, words = entries[0]
    receiver, second_sender = beside(machine, words[-1]), beside(second_getter, entries[-1][1][0])
    tours = tours_of(kind, many, (machine, receiver), (second_sender, second_getter))
    amid = gap_behind_first(tours, machine)
    moves = crossing(tours, second_sender, second_getter)
    if is_awake:
        return (tours, moves + sent_across(amid, machine, receiver, 1))
    waker = beside(machine, words[0])
    moves += [(0, ("send", waker, machine)), (amid, ("get", waker, machine))]
    return (tours, moves + sent_across(amid, machine, receiver, 2))


def sent_awake(kind, many, entries, machines):
    """Who was visited working sends a letter that stays under way."""
    machine = machines[0]
    receiver = beside(machine, entries[0][1][0])
    tours = tours_of(kind, many, (machine, receiver), (machine, receiver))
    return (tours, [(gap_behind_first(tours, machine), ("send", machine, receiver))])


def awake_to_first(kind, many, entries, machines):
    """Who was visited working sends to the machine 0; this one, woken behind its second visit, crosses the round."""
    machine, getter = machines
    tours = plain_tours(many)
    late = gap_behind_second(tours, 0)
    moves = [
        (gap_behind_first(tours, machine), ("send", machine, 0)),
        (late, ("get", machine, 0)),
        (late, ("send", 0, getter)),
        (late, ("get", 0, getter)),
    ]
    return (tours, moves)


# A plot for each row, in the order of the rows.
SLOW_ALIKE_PLOTS = (
    letter_kept, crossed, passed_on, passed_on, balanced_once, balanced, balanced, sent_awake, sent_awake,
    awake_to_first, balanced,
)
SLOW_ANEW_PLOTS = (
    letter_kept, crossed, crossed, balanced, balanced, balanced, balanced, sent_awake, sent_awake,
    balanced, balanced, balanced, balanced,
)
