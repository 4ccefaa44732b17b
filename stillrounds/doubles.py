"""Two rounds by which a waiting book that falls to a row of an event says, and a book with that event does not.

They are told by a list of letters: all equalities of the row hold of their sums, and nothing happens between the two
visits of any machine but the words of the row's entries.
"""

from stillrounds.epochruns import run_of
from stillrounds.epochs import NOT_GOT
from stillrounds.placing import beside


def old_letters(held):
    """Each machine gets, between its visits, a letter that was sent ahead of both, as its first word tells."""
    return [(beside(machine, words[0]), 0, machine, 1) for machine, words in held]


def letters_sent_on(row, machines, held):
    """What machines send between their visits; but what makes the first sums even is told apart."""
    letters = []
    for machine, words in held:
        if "sent lower" in words and row[2] == "below":
            letters.append((machine, 1, machines[0], 1))
        elif "sent lower" in words:
            letters.append((machine, 1, machine - 1, NOT_GOT))
        elif "sent higher" in words and ("G2", "S2") not in row[0]:
            letters.append((machine, 1, machine + 1, NOT_GOT))
    return letters


def crossing(machine):
    """A machine is woken behind both visits by an old letter of the next higher one, and sends two back in time.

    So the second round tells one letter as sent alone, and two as got alone.
    """
    return [(machine, 0, machine - 1, 2)] + [(machine - 1, 2, machine, 1)] * 2


def sent_ahead(machine, letters):
    """So many letters, sent by who was visited and got by who was not: they cross the first round."""
    return [(machine, 1, machine + 1, 0)] * letters


def machine_with(held, word):
    """The machine of an entry that has this word."""
    return [machine for machine, words in held if word in words][0]


def letters_by(row, machines):
    """The list of letters by which a row comes about with its entries at these machines."""
    held = [(machine, words) for machine, (_, words) in zip(machines, row[1])]
    if not held:
        return ((0, 0, 1, NOT_GOT),)
    sent_on = letters_sent_on(row, machines, held)
    letters = old_letters(held) + sent_on
    if ("G2", "S2") in row[0] and any([letter[3] == NOT_GOT for letter in sent_on]):
        letters += crossing(machine_with(held, "got lower"))
    if ("G1", "S1") in row[0]:
        old = [letter for letter in letters if letter[1] == 0]
        letters += sent_ahead(machine_with(held, "sent higher"), len(old))
    return tuple(sorted(letters))


def double_by(many, row, machines):
    """Two rounds of many machines by which a row comes about with its entries at these machines."""
    # Whoever is woken behind its second visit is below another machine: so nothing is done behind the last visit.
    return run_of(many, letters_by(row, machines))
