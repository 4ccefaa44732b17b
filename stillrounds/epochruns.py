"""Runs that have a list of letters, and the list that a run has."""

from stillrounds.epochs import NOT_GOT, comes

# How far a letter of a list is, as a run is made.
TO_SEND = 0
UNDER_WAY = 1
GOT = 2


class Making:
    """A run of two rounds as it is made: each letter is sent, and got, as early as may be."""

    def __init__(self, many, some):
        self.some = some
        self.states = [TO_SEND] * len(some)
        self.works = tuple([(machine, 0) in [letter[:2] for letter in some] for machine in range(many)])
        self.busy = list(self.works)
        self.epochs = [0] * many
        self.deeds = []

    def move(self, place):
        """Sends or gets the letter at this place of the list, if that can be; whether it was done."""
        sender, sent_in, receiver, got_in = self.some[place]
        state = self.states[place]
        if state == TO_SEND and self.busy[sender] and self.epochs[sender] == sent_in:
            self.deeds.append(("send", sender, receiver))
            self.states[place] = UNDER_WAY
            return True
        if state == UNDER_WAY and self.epochs[receiver] == got_in:
            self.deeds.append(("get", sender, receiver))
            self.states[place] = GOT
            self.busy[receiver] = True
            return True
        return False

    def move_all(self):
        """Does all that can be done with letters in the present gap."""
        moved = True
        while moved:
            moved = False
            # What is got may wake who sends a letter that stands ahead in the list: so all are gone through anew.
            for place in range(len(self.some)):
                if self.move(place):
                    moved = True

    def visit(self, machine):
        if self.busy[machine]:
            self.deeds.append(("rest", machine))
            self.busy[machine] = False
        self.deeds.append(("visit", machine))
        self.epochs[machine] += 1


def run_of(many, some):
    """A run of two rounds that has this list of letters; None if the list does not come."""
    if not comes(many, some):
        return None
    making = Making(many, some)
    for machine in list(range(many)) * 2:
        making.move_all()
        making.visit(machine)
    making.move_all()
    return (making.works, tuple(making.deeds))


def list_of(many, works, deeds):
    """The list that a run has, if the letter that was sent first from one machine to another is got first."""
    epochs, under_way, letters = [0] * many, {}, []
    for deed in deeds:
        word, pair = deed[0], deed[1:]
        if word == "visit":
            epochs[pair[0]] += 1
        elif word == "send":
            under_way.setdefault(pair, []).append(epochs[pair[0]])
        elif word == "get":
            letters.append((pair[0], under_way[pair].pop(0), pair[1], epochs[pair[1]]))
    for pair, left in under_way.items():
        letters.extend([(pair[0], sent_in, pair[1], NOT_GOT) for sent_in in left])
    return tuple(sorted(letters))
