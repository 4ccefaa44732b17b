"""A keeper of a run: it goes on deed by deed, and what was done can be undone, and done again."""

from stillrounds.books import book_error, world_error
from stillrounds.bounds import MAX_EDITS
from stillrounds.errors import BadBook, NothingToRedo, NothingToUndo, TooManyEdits, Unfit
from stillrounds.moving import after, open_deeds
from stillrounds.rounds import is_still
from stillrounds.shapes import are_works
from stillrounds.standings import start


class Keeper:
    """Keeps a run of book in world from the start on in which the machines work as works tells."""

    def __init__(self, book, world, works):
        error = book_error(book)
        if error is not None:
            raise BadBook(error)
        if world_error(world) is not None or not are_works(works, len(book[1])):
            raise Unfit()
        self.book = book
        self.world = world
        self.works = works
        # All deeds that stand or can be done again, in order, and the standings ahead of them and behind the last one.
        self._done = ()
        self._standings = (start(works),)
        self._turn_to(0)

    def _turn_to(self, version):
        """Lets so many deeds stand, and returns this number; the others can be done again."""
        self.version = version
        self.standing = self._standings[version]
        self.deeds = self._done[:version]
        self.undone = len(self._done) - version
        return version

    def opened(self):
        """The deeds that can be done at the present standing."""
        return open_deeds(self.book, self.world, self.standing)

    def still(self):
        """Whether nobody works and no letter is under way."""
        return is_still(self.standing)

    def do(self, deed):
        """Does deed, behind which nothing can be done again."""
        behind = after(self.book, self.world, self.standing, deed)
        if self.version == MAX_EDITS:
            raise TooManyEdits()
        self._done = self.deeds + (deed,)
        self._standings = self._standings[:self.version + 1] + (behind,)
        return self._turn_to(self.version + 1)

    def undo(self):
        """Takes back the last deed that stands."""
        if self.version == 0:
            raise NothingToUndo()
        return self._turn_to(self.version - 1)

    def redo(self):
        """Does again the deed that was taken back last."""
        if self.undone == 0:
            raise NothingToRedo()
        return self._turn_to(self.version + 1)

    def twin(self):
        """A keeper of the same run, also of what can be done again; neither changes with the other."""
        other = Keeper(self.book, self.world, self.works)
        other._done = self._done
        other._standings = self._standings
        other._turn_to(self.version)
        return other

    def __eq__(self, other):
        if not isinstance(other, Keeper):
            return False
        return (self.book, self.world, self.standing) == (other.book, other.world, other.standing)
