"""What can happen in two rounds of waiting machines by a book that says, told exactly, apart from the tables.

Letters are told by epochs. How many letters there are of each kind can be multiplied, and added up: so the ways to say
make a cone, and the letters that can be there at all can all be there together. By the rays of that cone it is told
which letters these are, and whether an equality holds in all ways.
"""

from math import gcd

from tests.lists import gaps_of, letters_of, woken_told

KINDS = [(x, y) for x in range(3) for y in range(4)]


def words_of(letter):
    """The pairs of a machine and a word that happens to it between its visits by this letter."""
    i, x, j, y = letter
    found = []
    if x == 1:
        found.append((i, "sent lower" if j < i else "sent higher"))
    if y == 1:
        found.append((j, "got lower" if i < j else "got higher"))
    return found


def counts(kind):
    """How often a letter of this kind is told by each sum."""
    x, y = kind
    return {"S1": x == 0, "G1": y == 0, "S2": x <= 1, "G2": y <= 1}


def uneven(test, ray):
    """By how much the two sums of a test differ."""
    return sum(many * (counts(kind)[test[0]] - counts(kind)[test[1]]) for kind, many in ray.items())


def added(one, times, other, more):
    found = {kind: times * one.get(kind, 0) + more * other.get(kind, 0) for kind in {**one, **other}}
    least = gcd(*found.values())
    return {kind: many // least for kind, many in sorted(found.items())}


def rays_of(kinds, tests):
    """Ways to have letters of these kinds of which all ways in which all tests hold are sums of multiples."""
    rays = [{kind: 1} for kind in kinds]
    for test in tests:
        over = [ray for ray in rays if uneven(test, ray) > 0]
        under = [ray for ray in rays if uneven(test, ray) < 0]
        even = [ray for ray in rays if uneven(test, ray) == 0]
        even += [added(one, -uneven(test, other), other, uneven(test, one)) for one in over for other in under]
        rays = [ray for at, ray in enumerate(even) if ray not in even[:at]]
    return rays


def in_time(many, letters):
    """Those of letters that can be sent and got as told, if all of them are there."""
    woken = woken_told(many, letters)
    found = []
    for i, x, j, y in letters:
        gap = woken[i][x]
        if gap is not None and (y == 3 or max(gap, gaps_of(many, j, y)[0]) <= gaps_of(many, j, y)[-1]):
            found.append((i, x, j, y))
    return found


def what_can_be(book):
    """The letters that can be there, and the rays, where the book says at the end of two rounds."""
    tests, manners = book
    many = len(manners)
    letters = [
        letter for letter in letters_of(many) if not any(word in manners[i][1] for i, word in words_of(letter))
    ]
    while True:
        left = in_time(many, letters)
        rays = rays_of(sorted({(x, y) for _, x, _, y in left}), tests)
        left = [letter for letter in left if any((letter[1], letter[3]) in ray for ray in rays)]
        if left == letters:
            return letters, rays
        letters = left


def says_whenever_told(one, other):
    letters, rays = what_can_be(one)
    if any(uneven(test, ray) for test in other[0] for ray in rays):
        return False
    happen = {pair for letter in letters for pair in words_of(letter)}
    return not any((i, word) in happen for i, (_, notes) in enumerate(other[1]) for word in notes)
