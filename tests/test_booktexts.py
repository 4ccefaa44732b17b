"""[A7], [A9]: books and worlds as texts, and back."""

import unittest

from stillrounds.booktexts import book_text, read_book, read_world, world_text
from stillrounds.errors import BadBook, BadText
from tests.bookkinds import LOTS, MANNERS, TESTS, WORDS, WORLDS, all_small_books, choices, some_books
from tests.helpers import CallCase, any_values, changed_texts, outcome


def comma(words):
    return ", ".join(words)


# What the lines of texts are, built here from what the document tells, and not by the package.
TEST_LINES = {
    "tests " + (comma(f"{test[0]}={test[1]}" for test in lot) if lot else "none"): lot for lot in LOTS
}
MANNER_LINES = {
    head + (": " + comma(notes) if notes else ""): (waits, notes)
    for head, waits in (("waits", True), ("any time", False)) for notes in choices(WORDS)
}
SIGNS = (" ", ",", ":", "=", "\n", "1", "s", "\r", "\t")


def expected_book(value):
    """What read_book is to do: an error, or the book."""
    if type(value) is not str:
        return BadText(0)
    lines = value.split("\n")
    if lines[0] not in TEST_LINES:
        return BadText(0)
    for number, line in enumerate(lines):
        if number > 0 and line not in MANNER_LINES:
            return BadText(number)
    if not 3 <= len(lines) <= 7:
        return BadBook("manners")
    return (TEST_LINES[lines[0]], tuple(MANNER_LINES[line] for line in lines[1:]))


def expected_world(value):
    for world in WORLDS:
        if value == world[0] + ", " + world[1]:
            return world
    return BadText(0)


class Written(CallCase):
    def test_lines_of_tests(self):
        for line, lot in TEST_LINES.items():
            self.tells(line + "\nwaits\nany time", book_text, book=(lot, ((True, ()), (False, ()))))

    def test_lines_of_manners(self):
        for line, manner in MANNER_LINES.items():
            self.tells(f"tests none\nwaits\n{line}\n{line}", book_text, book=((), ((True, ()), manner, manner)))

    def test_worlds(self):
        for world in WORLDS:
            self.tells(f"{world[0]}, {world[1]}", world_text, world=world)


class ThereAndBack(CallCase):
    def test_books(self):
        for book in some_books():
            self.tells(book, read_book, value=book_text(book))

    def test_unlike_books_have_unlike_texts(self):
        texts = {}
        for book in all_small_books(LOTS[::7], MANNERS) + all_small_books(LOTS, MANNERS[::6]) + some_books():
            text = book_text(book)
            self.assertEqual(texts.setdefault(text, book), book)
            self.assertEqual(repr(read_book(text)), repr(book))

    def test_worlds(self):
        for world in WORLDS:
            self.tells(world, read_world, value=world_text(world))
        self.assertEqual(len({world_text(world) for world in WORLDS}), 4)


class ReadBook(CallCase):
    def reads(self, value):
        self.raises_or_tells(expected_book(value), read_book, value=value)

    def test_every_line(self):
        for line in TEST_LINES:
            self.reads(line + "\nwaits\nwaits")
        for line in MANNER_LINES:
            self.reads("tests none\nwaits\n" + line)

    def test_values_of_all_kinds(self):
        for value in any_values():
            self.raises(BadText(0), read_book, value=value)
            if type(value) is str and value.split("\n")[0] not in MANNER_LINES:
                self.raises(BadText(2), read_book, value="tests none\nwaits\n" + value + "\nwaits")

    def test_what_is_no_text_but_a_list_of_lines(self):
        for value in (["tests none", "waits", "waits"], ("tests none", "waits", "waits"), ((), ((True, ()),) * 2)):
            self.raises(BadText(0), read_book, value=value)

    def test_texts_a_little_changed(self):
        books = [
            ((TESTS[1], TESTS[5]), ((True, ()), (False, ("got lower", "sent higher")), (True, ("sent lower",)))),
            ((), ((True, ()), (True, ()))),
            (TESTS, ((False, WORDS), (False, ()))),
            (TESTS[2:3], ((True, ("got higher", "got lower")),) * 6),
        ]
        right = 0
        for book in books:
            for text in changed_texts(book_text(book), SIGNS):
                expected = expected_book(text)
                right += type(expected) is tuple
                shown = repr(expected)
                if type(expected) is not tuple:
                    shown = f"raises {type(expected).__name__}({list(vars(expected).values())[0]!r})"
                self.assertEqual(outcome(read_book, text), shown, text)
        # Lines that change places, are doubled or left out make other books.
        self.assertGreater(right, 20)

    def test_first_wrong_line(self):
        lines = ["tests G1=S1", "waits", "any time", "waits: got lower", "any time: sent lower"]
        for k in range(len(lines)):
            for j in range(k, len(lines)):
                spoilt = list(lines)
                spoilt[k] = spoilt[j] = "wait"
                self.raises(BadText(k), read_book, value="\n".join(spoilt))
            self.raises(BadText(k), read_book, value="\n".join(lines[:k] + [""] + lines[k:]))
        self.raises(BadText(5), read_book, value="\n".join(lines) + "\n")
        self.raises(BadText(1), read_book, value="tests none\n")
        self.raises(BadText(0), read_book, value="\n" + "\n".join(lines))

    def test_how_many_lines_of_manners(self):
        for many in (0, 1, 7, 8, 1000):
            text = "tests G1=S2" + "\nwaits" * many
            self.raises(BadBook("manners"), read_book, value=text)
            # That a line is wrong is told ahead of that, wherever it stands.
            self.raises(BadText(many + 1), read_book, value=text + "\nwait")
            self.raises(BadText(0), read_book, value="T" + text[1:])
        for many in range(2, 7):
            self.tells(((TESTS[2],), ((True, ()),) * many), read_book, value="tests G1=S2" + "\nwaits" * many)

    def test_tests_doubled_or_in_another_sequence(self):
        lines = (
            "tests G1=S1, G1=S1", "tests S1=S2, G1=S1", "tests S1=G1", "tests none, G1=S1", "tests G1=S1, none", "tests",
            "tests ", "tests  G1=S1", "tests G1=S1,S1=S2", "tests G1=S1, ", "tests G1=S1,", "tests , G1=S1", "test none",
            "tests G1 = S1", "tests G1==S1", "tests G1=S1=S2", "tests G1", "tests G1=", "tests none ", " tests none",
            "Tests none", "tests None", "G1=S1", "none", "tests g1=s1", "tests G1=S1; S1=S2", "tests G1=G1", "",
        )
        for line in lines:
            self.raises(BadText(0), read_book, value=line + "\nwaits\nwaits")

    def test_words_doubled_or_in_another_sequence(self):
        lines = (
            "waits: got lower, got lower", "waits: sent lower, got lower", "waits: ", "waits:", "waits : got lower",
            "waits:got lower", "waits:  got lower", "waits: got lower,", "waits: got lower, ", "waits: , got lower",
            "waits: got", "waits: lower", "waits got lower", "wait", "Waits", "any", "anytime", "any  time", "any time ",
            " any time", "any time:", "any time: waits", "waits: none", "none", "", "waits: got lower,sent lower",
            "waits: got lower: sent lower", "True", "waits: waits", "waits: : got lower", ": got lower", "got lower",
        )
        for line in lines:
            self.raises(BadText(1), read_book, value="tests none\n" + line + "\nwaits")
            self.raises(BadText(2), read_book, value="tests none\nwaits\n" + line + "\nwait")


class ReadWorld(CallCase):
    def test_values_of_all_kinds(self):
        for value in any_values() + list(WORLDS) + [list(world) for world in WORLDS]:
            self.raises(BadText(0), read_world, value=value)

    def test_texts_a_little_changed(self):
        for world in WORLDS:
            for text in changed_texts(world_text(world), SIGNS):
                self.raises_or_tells(expected_world(text), read_world, value=text)

    def test_words_elsewhere(self):
        for roads, tours in WORLDS:
            texts = (
                f"{tours}, {roads}", f"{roads},{tours}", f"{roads} {tours}", f"{roads}\n{tours}", f"{roads}, {tours}\n",
                f"{roads}", f"{roads}, ", f", {tours}", f"{roads}, {tours}, {tours}", f"{roads}: {tours}",
                f"{roads}, {roads}", f"{tours}, {tours}", f"\n{roads}, {tours}",
            )
            for text in texts:
                self.raises(BadText(0), read_world, value=text)


if __name__ == "__main__":
    unittest.main()
