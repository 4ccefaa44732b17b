"""Rounds that have ended in a run, and which tests hold of their sums."""

from stillrounds.books import TESTS
from stillrounds.moving import after, is_all_still, tests_hold, tour_behind
from stillrounds.standings import start


def is_still(standing):
    """Whether nobody works and no letter is under way."""
    return is_all_still(standing[0], standing[1])


def holding(ahead, now):
    """The tests that hold of the sums (sent, got) of a round and of the one behind it."""
    return tuple([test for test in TESTS if tests_hold((test,), ahead, now)])


def rounds_of(book, world, works, deeds):
    """What each round that has ended in the run told, and whether it was said at its end that all is still."""
    standing = start(works)
    rounds = []
    for deed in deeds:
        ahead = standing
        standing = after(book, world, ahead, deed)
        # The standing behind a round may have forgotten its tour: it is taken from the one ahead.
        if deed[0] == "visit" and len(ahead[2][0]) == len(works) - 1:
            rounds.append(tour_behind(book, ahead, deed[1]) + (standing[4],))
    return tuple(rounds)
