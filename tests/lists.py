"""Letters by epochs, told apart from the package: when machines are woken, which lists come, what a run has."""

import random
from itertools import combinations_with_replacement, product

from tests.courses import Course

WAITING = (True, ())


def plain_book(many):
    return ((), (WAITING,) * many)


def letters_of(many):
    """All letters of many machines, ascending."""
    machines = range(many)
    return [(i, x, j, y) for i in machines for x in range(3) for j in machines if j != i for y in range(4)]


def lists_of(many, most):
    """All lists of at most so many letters."""
    letters = letters_of(many)
    return [some for length in range(most + 1) for some in combinations_with_replacement(letters, length)]


def epoch_at(many, machine, gap):
    """The visits of the machine have the numbers machine and many + machine; in the gap t those below t are done."""
    return sum(visit < gap for visit in (machine, many + machine))


def gaps_of(many, machine, epoch):
    return [gap for gap in range(2 * many + 1) if epoch_at(many, machine, gap) == epoch]


def woken_told(many, some):
    """Goes on gap by gap: who is woken sends all that it can, and everything is got as early as can be."""
    woken = {(i, 0): 0 for i in range(many)}
    sent, got = set(), set()
    for gap in range(2 * many + 1):
        epochs = [epoch_at(many, i, gap) for i in range(many)]
        moved = True
        while moved:
            moved = False
            for at, (i, x, j, y) in enumerate(some):
                if at not in sent and epochs[i] == x and (i, x) in woken:
                    sent.add(at)
                    moved = True
                if at in sent and at not in got and epochs[j] == y:
                    got.add(at)
                    woken.setdefault((j, y), gap)
                    moved = True
    return tuple(tuple(woken.get((i, epoch)) for epoch in range(3)) for i in range(many))


def is_solution(many, some, told):
    """Whether what is told of each machine and epoch is what the letters make of what is told of the others."""
    for j in range(many):
        for epoch in (1, 2):
            gaps = gaps_of(many, j, epoch)
            found = [max(gaps[0], told[i][x]) for i, x, *to in some if to == [j, epoch] and told[i][x] is not None]
            if min([gap for gap in found if gap <= gaps[-1]], default=None) != told[j][epoch]:
                return False
    return True


def greatest_solution(many, some):
    """The solution with the greatest gaps, None being the greatest, found among all that could be one."""
    choices = [gaps_of(many, i, epoch) + [None] for i in range(many) for epoch in (1, 2)]
    found = []
    for chosen in product(*choices):
        told = tuple((0,) + chosen[2 * i:2 * i + 2] for i in range(many))
        if is_solution(many, some, told):
            found.append(told)

    def key(told):
        return [2 * many + 1 if gap is None else gap for triple in told for gap in triple]

    greatest = max(found, key=lambda told: sum(key(told)))
    assert all(low <= high for told in found for low, high in zip(key(told), key(greatest)))
    return greatest


def lists_that_come(many, most):
    """All lists of at most so many letters that runs of two rounds have, all these runs gone through.

    Who works may go on until its visit: resting earlier brings nothing that could not come so.
    """
    first = (0, (True,) * many, (), ())
    seen, todo, found = {first}, [first], set()
    while todo:
        gap, busy, under_way, got = todo.pop()
        if gap == 2 * many:
            found.add(tuple(sorted(got + tuple(letter + (3,) for letter in under_way))))
        for state in states_behind(many, most, gap, busy, under_way, got):
            if state not in seen:
                seen.add(state)
                todo.append(state)
    return found


def states_behind(many, most, gap, busy, under_way, got):
    """The states one deed behind: a letter is sent, or got, or a machine rests and is visited."""
    found = []
    if len(under_way) + len(got) < most:
        for i, j in product(range(many), repeat=2):
            if busy[i] and i != j:
                letter = (i, epoch_at(many, i, gap), j)
                found.append((gap, busy, tuple(sorted(under_way + (letter,))), got))
    for letter in set(under_way):
        left = list(under_way)
        left.remove(letter)
        j = letter[2]
        behind = tuple(sorted(got + (letter + (epoch_at(many, j, gap),),)))
        found.append((gap, busy[:j] + (True,) + busy[j + 1:], tuple(left), behind))
    if gap < 2 * many:
        i = gap % many
        found.append((gap + 1, busy[:i] + (False,) + busy[i + 1:], under_way, got))
    return found


def has_list(many, deeds, some):
    """Whether the letters of deeds can be matched with those of some, each machine's letters to each other one."""
    return all(
        pair_has(many, deeds, (i, j), [(x, y) for a, x, b, y in some if (a, b) == (i, j)])
        for i in range(many) for j in range(many) if i != j
    )


def pair_has(many, deeds, pair, wanted):
    """The same for the letters from one machine to another, wanted being their epochs."""
    visits = dict.fromkeys(range(many), 0)
    states = {((), ())}
    for deed in deeds:
        if deed[0] == "visit":
            visits[deed[1]] += 1
        elif deed == ("send",) + pair:
            states = {(tuple(sorted(way + (visits[pair[0]],))), got) for way, got in states}
        elif deed == ("get",) + pair:
            states = {
                (way[:way.index(x)] + way[way.index(x) + 1:], tuple(sorted(got + ((x, visits[pair[1]]),))))
                for way, got in states for x in set(way)
            }
            states = {(way, got) for way, got in states if all(got.count(one) <= wanted.count(one) for one in got)}
    return sorted(wanted) in [sorted(got + tuple((x, 3) for x in way)) for way, got in states]


def sums_told(some):
    """S1, G1, S2 and G2 by the letters as they are told."""
    return tuple(sum(letter[at] <= epoch for letter in some) for epoch in (0, 1) for at in (1, 3))


def random_list(draw, many, length, letters=None):
    """A list of letters drawn one by one, be they woken in time or not."""
    return tuple(sorted(draw.choice(letters or letters_of(many)) for _ in range(length)))


def lively_list(draw, many, length):
    """A list of letters each of which can be sent, many of them by who was woken."""
    some = []
    while len(some) < length:
        told = woken_told(many, some)
        senders = [(i, x) for i in range(many) for x in range(3) if told[i][x] is not None]
        woken_ones = [(i, x) for i, x in senders if x > 0]
        i, x = draw.choice(woken_ones if woken_ones and draw.random() < 0.6 else senders)
        j = draw.choice([j for j in range(many) if j != i])
        some.append((i, x, j, draw.choice((0, 1, 1, 1, 2, 2, 3))))
    return tuple(sorted(some))


def double_runs(seed, how_many):
    """Runs of two rounds in which at most twelve letters are sent, done deed by deed: (many, works, deeds)."""
    draw, runs = random.Random(seed), []
    for at in range(how_many):
        many = 2 + at % 5
        works = tuple(draw.random() < 0.6 for _ in range(many))
        course, deeds = Course(plain_book(many), ("slow", "alike"), works), []
        lively = {word: draw.randint(1, 6) for word in ("visit", "rest", "send", "get")}
        while course.said == "no" or draw.random() < 0.6:
            can = [deed for deed in course.deeds() if deed[0] != "send" or sum(course.sent) < 12]
            if not can:
                break
            word = draw.choices(list(lively), list(lively.values()))[0]
            deed = draw.choice([deed for deed in can if deed[0] == word] or can)
            course.do(deed)
            deeds.append(deed)
        runs.append((many, works, tuple(deeds)))
    return runs
