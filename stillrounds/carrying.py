"""What a rounder has to carry in each round, and to keep from one round to the next.

A form (a, b) tells, of the sums of a round, a times got and b times sent, together.
"""

from stillrounds.moving import tests_hold
from stillrounds.shapes import is_count, is_tuple_of

MOST_SUM = 1000000

FORMS = (("difference", (1, -1)), ("got", (1, 0)), ("sent", (0, 1)))

# What a rounder has to know of both rounds to see whether a test holds: words of FORMS.
ASKED = {
    ("G1", "G2"): ("got",),
    ("G1", "S1"): ("difference",),
    ("G1", "S2"): ("got", "sent"),
    ("G2", "S1"): ("got", "sent"),
    ("G2", "S2"): ("difference",),
    ("S1", "S2"): ("sent",),
}


def words_asked(tests):
    """The words of FORMS that some test asks."""
    return [word for word, _ in FORMS if any([word in ASKED[test] for test in tests])]


def carried(tests):
    """What a rounder has to carry in each round, as few numbers as can be."""
    words = words_asked(tests)
    # Two of the three forms tell the third one.
    return tuple(words) if len(words) < 2 else ("got", "sent")


def joined(tests, name):
    """The names of the sums that tests join with this one, itself, too."""
    names = [name]
    # Each time through one name at least is found, if any is left.
    for _ in tests:
        for one, other in tests:
            if (one in names) != (other in names):
                names.append(other if one in names else one)
    return names


def kept(tests):
    """Whether it matters that the first sums are alike, and which of them has to be kept as a number, besides."""
    got, sent = joined(tests, "G1"), joined(tests, "S1")
    asks = "S1" in got
    words = tuple([word for word, names in (("got", got), ("sent", sent)) if "G2" in names or "S2" in names])
    # Of sums that must be alike one number tells both.
    return (asks, words[:1] if asks else words)


def are_parallel(form, other):
    """Whether one of the two forms is a multiple of the other one."""
    return form[0] * other[1] == form[1] * other[0]


def is_told(form, forms):
    """Whether form, not (0, 0), is a sum of multiples of forms."""
    for one in forms:
        if not all([are_parallel(one, other) for other in forms]):
            return True
    return any([each != (0, 0) and are_parallel(form, each) for each in forms])


def suffices(tests, forms):
    """Whether who carries forms always sees whether all tests hold."""
    asked = words_asked(tests)
    return all([is_told(form, forms) for word, form in FORMS if word in asked])


def worth(form, sums):
    """What form comes to by the sums (sent, got) of a round."""
    return form[0] * sums[1] + form[1] * sums[0]


def all_hold(tests, quadruple):
    """Whether all tests hold of (S1, G1, S2, G2)."""
    return tests_hold(tests, quadruple[:2], quadruple[2:])


def unseen(forms):
    """What can be added to the sums (sent, got) of a round so that no form comes to something else."""
    found = [(form[0], -form[1]) for form in forms] + [(0, 1), (1, 0)]
    return [more for more in found if all([worth(form, more) == 0 for form in forms])]


def confusing(tests, forms):
    """Two quadruples that forms do not tell apart, of just one of which all tests hold; None if there are none."""
    # All four alike and greater than what is added: nothing falls below 0, and a test fails if one side alone changes.
    one = (100, 100, 100, 100)
    for sent, got in unseen(forms):
        for other in ((100 + sent, 100 + got, 100, 100), (100, 100, 100 + sent, 100 + got)):
            if not all_hold(tests, other):
                return (one, other)
    return None


def is_quadruple(value):
    return is_tuple_of(value, 4) and all([is_count(each) and each <= MOST_SUM for each in value])


def confusing_error(tests, forms, value):
    """The first thing that is wrong with value as a confusing pair; None if it is one."""
    if not is_tuple_of(value, 2) or not is_quadruple(value[0]) or not is_quadruple(value[1]):
        return "form"
    one, other = value
    for k, form in enumerate(forms):
        if worth(form, one[:2]) != worth(form, other[:2]):
            return ("before", k)
    for k, form in enumerate(forms):
        if worth(form, one[2:]) != worth(form, other[2:]):
            return ("now", k)
    return "alike" if all_hold(tests, one) == all_hold(tests, other) else None


def told_apart(tests, one, other):
    """Sums of the next round with which all tests hold behind just one of one and other; None if there are none."""
    # A sum is asked to be as one of the first ones is, or else it may be as any of them is.
    numbers = one + other
    for now in [(sent, got) for sent in numbers for got in numbers]:
        if tests_hold(tests, one, now) != tests_hold(tests, other, now):
            return now
    return None
