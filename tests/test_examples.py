"""Every example, as the document prints it."""

import unittest

from tests.helpers import examples_in, run_example

PART_A = (
    ("A5", r"""
    >>> from stillrounds.books import alike_for, book_error, world_error
    >>> quiet, noting = (True, ()), (False, ("got lower", "sent higher"))
    >>> book = ((("G1", "S1"), ("S1", "S2")), (quiet, noting, quiet))
    >>> [book_error(value) for value in (book, ((), (quiet, quiet)), (book[0],), [book[0], book[1]], (book[0], [quiet, quiet]), (book[0][::-1], book[1]), (book[0], (quiet,)))]
    [None, None, 'form', 'form', 'form', 'tests', 'manners']
    >>> [book_error((tests, (quiet, quiet))) for tests in ((("S1", "G1"),), (("G1", "S1"), "S1"), (("G1", "S1"), ("G1", "S1")), ("G1", "S1"))]
    [('test', 0), ('test', 1), 'tests', ('test', 0)]
    >>> [book_error(((), (quiet, manner))) for manner in ((1, ()), (True, ("sent lower", "got lower")), (True, ["got lower"]), (True, ("got",)), (True,), (True, ("got lower", "got lower")))]
    [('manner', 1), ('manner', 1), ('manner', 1), ('manner', 1), ('manner', 1), ('manner', 1)]
    >>> [world_error(value) for value in (("slow", "alike"), ("at once", "anew"), ("slow",), ("fast", "alike"), ("at once", None), ["slow", "alike"])]
    [None, None, 'form', 'roads', 'tours', 'form']
    """),
    ("A6", r"""
    >>> alike_for((("G1", "S2"),), quiet, 3) == ((("G1", "S2"),), (quiet, quiet, quiet))
    True
    >>> alike_for((), quiet, 1)
    raises Unfit()
    >>> alike_for((), quiet, True)
    raises Unfit()
    """),
    ("A7", r"""
    >>> from stillrounds.booktexts import book_text, read_book, read_world, world_text
    >>> book_text(book), world_text(("at once", "anew"))
    ('tests G1=S1, S1=S2\nwaits\nany time: got lower, sent higher\nwaits', 'at once, anew')
    >>> read_book(book_text(book)) == book, read_book("tests none\nwaits\nwaits"), read_world("slow, alike")
    (True, ((), ((True, ()), (True, ()))), ('slow', 'alike'))
    >>> read_book("tests none\nwaits")
    raises BadBook('manners')
    >>> read_book("tests S1=S2, G1=S1\nwaits\nwaits")
    raises BadText(0)
    >>> read_book("tests none\nwaits\nwaits:")
    raises BadText(2)
    >>> read_book("tests none\nwaits\nwaits\n")
    raises BadText(3)
    >>> read_world("slow,alike")
    raises BadText(0)
    >>> read_book(None)
    raises BadText(0)
    """),
)


class Examples(unittest.TestCase):
    def show(self, part):
        """Names that were set once stay set in a part."""
        names = {}
        for promise, text in part:
            for source, printed in examples_in(text):
                with self.subTest(promise=promise, example=source):
                    self.assertEqual(run_example(names, source), printed)

    def test_books_and_worlds(self):
        self.show(PART_A)

    def test_a_wrong_example_would_be_seen(self):
        self.assertNotEqual(run_example({}, "(True, 0)"), "(1, 0)")
        self.assertEqual(examples_in(">>> 1 + 1\n2\n>>> x = 1"), [["1 + 1", "2"], ["x = 1", None]])
