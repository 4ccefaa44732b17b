"""What can happen in two rounds with few letters, whatever the book is, told apart from the package.

Two rounds are gone through in all ways. Who has got a letter since its last visit, or works at first, can send until
it is visited; at its first visit it may be awake: it is visited though it works, and goes on. What is kept is what a
book can see of it: which sums are alike, which words happened to whom between both visits, who was awake.
"""

from tests.bookkinds import TESTS, WORDS

BITS = {word: 1 << at for at, word in enumerate(WORDS)}


def with_at(items, at, item):
    return items[:at] + (item,) + items[at + 1:]


class State:
    """A time of the two rounds; changed ones are new ones."""

    NAMES = ("visits", "visited", "busy", "awake", "words", "sent", "got", "letters", "sums", "left", "woken")

    def __init__(self, **parts):
        self.parts = parts

    def __getattr__(self, name):
        return self.parts[name]

    def having(self, **parts):
        return State(**{**self.parts, **parts})

    def key(self):
        return tuple(self.parts[name] for name in self.NAMES)

    def epoch(self, i):
        return self.visits // len(self.sent) + (i in self.visited)

    def noting(self, i, word):
        if self.epoch(i) != 1:
            return self.words
        return with_at(self.words, i, self.words[i] | BITS[word])


def first_state(many, letters):
    return State(
        visits=0, visited=frozenset(), busy=frozenset(range(many)), awake=frozenset(), words=(0,) * many,
        sent=(0,) * many, got=(0,) * many, letters=(), sums=(0, 0, 0, 0), left=letters, woken=False,
    )


def got_behind(state, i, j):
    return state.having(
        words=state.noting(j, "got lower" if i < j else "got higher"), busy=state.busy | {j},
        got=with_at(state.got, j, state.got[j] + 1), woken=state.woken or state.epoch(j) == 2,
    )


def sent_behind(state, i, j, slow):
    sent = state.having(
        words=state.noting(i, "sent lower" if j < i else "sent higher"),
        sent=with_at(state.sent, i, state.sent[i] + 1), left=state.left - 1,
    )
    if slow:
        return sent.having(letters=tuple(sorted(state.letters + ((i, j),))))
    return got_behind(sent, i, j)


def visits_behind(state, i):
    """The visit of a machine that rests, and, in the first round, of one that works and goes on."""
    many, first = len(state.sent), state.visits < len(state.sent)
    sums = list(state.sums)
    sums[0 if first else 2] += state.sent[i]
    sums[1 if first else 3] += state.got[i]
    visited = state.visited | {i}
    behind = state.having(
        visits=state.visits + 1, visited=frozenset() if len(visited) == many else visited, sums=tuple(sums),
        busy=state.busy - {i},
    )
    if first and i in state.busy:
        return [behind, behind.having(busy=state.busy, awake=state.awake | {i})]
    return [behind]


def states_behind(state, world):
    many, slow = len(state.sent), world[0] == "slow"
    found = []
    if state.left > 0:
        for i in state.busy:
            found += [sent_behind(state, i, j, slow) for j in range(many) if j != i]
    for letter in set(state.letters):
        at = state.letters.index(letter)
        found.append(got_behind(state.having(letters=state.letters[:at] + state.letters[at + 1:]), *letter))
    for i in range(many):
        if i not in state.visited and (world[1] == "anew" or i == len(state.visited)):
            found += visits_behind(state, i)
    return found


def ends(world, many, letters):
    """All states behind two rounds with at most so many letters."""
    first = first_state(many, letters)
    seen, todo, found = {first.key()}, [first], []
    while todo:
        state = todo.pop()
        if state.visits == 2 * many:
            found.append(state)
            continue
        for behind in states_behind(state, world):
            if behind.key() not in seen:
                seen.add(behind.key())
                todo.append(behind)
    return found


def alike_sums(sums):
    """Which tests hold of the sums S1, G1, S2, G2."""
    named = dict(zip(("S1", "G1", "S2", "G2"), sums))
    return tuple(test for test in TESTS if named[test[0]] == named[test[1]])


def misled(world, many, letters):
    """The books that ask most of those that are too early in two rounds with at most so many letters.

    A book is too early there exactly if one of these asks all that it asks.
    """
    found = {}
    for end in ends(world, many, letters):
        if end.letters or end.woken:
            manners = tuple(
                (i not in end.awake, tuple(word for word in WORDS if not end.words[i] & BITS[word]))
                for i in range(many)
            )
            found[(alike_sums(end.sums), manners)] = True
    return list(found)


def asks_all_of(book, other):
    """Whether book tests, notes and waits whatever other does."""
    return set(other[0]) <= set(book[0]) and all(
        (waits or not his_waits) and set(his_notes) <= set(notes)
        for (waits, notes), (his_waits, his_notes) in zip(book[1], other[1])
    )
