"""A shell: it has a book, a world and a keeper, and answers the lines that are said to it."""

from stillrounds.booktexts import book_text, read_book, read_world, world_text
from stillrounds.errors import StillError
from stillrounds.keepers import Keeper
from stillrounds.knownbooks import known_book
from stillrounds.safety import falls, is_safe
from stillrounds.shelllines import request_in
from stillrounds.telling import listed, machine_told, told_of, yes_or_no

# What the lines need; all others of the keeper need a keeper alone.
NEED_NOTHING = ("book", "known", "world")
NEED_BOOK = ("text", "start", "safe", "falls")
NEED_WORLD = ("start", "safe", "falls")


class Shell:
    """Answers line by line; at first it has no book, no world and no keeper."""

    def __init__(self):
        self.book = None
        self.world = None
        self.keeper = None

    def say(self, line):
        """Does what line says, and tells what is to be answered."""
        request = request_in(line)
        if request is None:
            return "what"
        word, told = request
        lack = self.lacking(word)
        if lack is not None:
            return lack
        try:
            return self.answer(word, told)
        except StillError as error:
            return "error " + type(error).__name__

    def lacking(self, word):
        """What is lacking for lines of this word, as an answer; None if nothing is."""
        if word in NEED_BOOK and self.book is None:
            return "no book"
        if word in NEED_WORLD and self.world is None:
            return "no world"
        needs_keeper = word not in NEED_NOTHING and word not in NEED_BOOK
        return "no run" if needs_keeper and self.keeper is None else None

    def answer(self, word, told):
        if word in NEED_NOTHING:
            return self.settle(word, told)
        if word == "start":
            self.keeper = Keeper(self.book, self.world, told)
            return "begun"
        if word in NEED_BOOK:
            return self.judge(word)
        if word in ("do", "undo", "redo"):
            return self.edit(word, told)
        if word == "machine":
            return machine_told(self.keeper, told)
        return told_of(self.keeper, word)

    def settle(self, word, told):
        """Takes another book or world, with which no run is begun yet."""
        if word == "world":
            self.world = read_world(told)
            self.keeper = None
            return world_text(self.world)
        self.book = read_book(told) if word == "book" else known_book(told[1], told[0])
        self.keeper = None
        return str(len(self.book[1]))

    def judge(self, word):
        """Tells of the book, and of how it is in the world."""
        if word == "text":
            return book_text(self.book)
        if word == "safe":
            return yes_or_no(is_safe(self.book, self.world))
        return listed([str(number) for number in falls(self.book, self.world)], " ")

    def edit(self, word, told):
        """Does, undoes or does again, and tells the version then."""
        if word == "do":
            version = self.keeper.do(told)
        elif word == "undo":
            version = self.keeper.undo()
        else:
            version = self.keeper.redo()
        return f"version {version}"
