"""[A8], [A9]: the known books, as the table tells them."""

import unittest
from itertools import permutations

from stillrounds.books import alike_for, book_error, world_error
from stillrounds.errors import Unfit
from stillrounds.knownbooks import known_book, known_names, known_worlds
from tests.helpers import CallCase, any_values

BOTH_TOURS = [("at once", "alike"), ("at once", "anew")]
BOTH_ROADS = [("at once", "alike"), ("slow", "alike")]
ALL_FOUR = [("at once", "alike"), ("at once", "anew"), ("slow", "alike"), ("slow", "anew")]
TABLE = {
    "colours": ([], ["sent lower"], [("at once", "alike")]),
    "colours both ways": ([], ["sent higher", "sent lower"], BOTH_TOURS),
    "early sum": ([("G1", "S1")], ["sent higher"], BOTH_ROADS),
    "four counts": ([("G1", "S2")], [], ALL_FOUR),
    "half sum": ([("G2", "S2")], ["got lower"], BOTH_ROADS),
    "sent twice": ([("S1", "S2")], [], BOTH_TOURS),
    "sum and colours": ([("G2", "S2")], ["got higher", "got lower"], ALL_FOUR),
}
NO_NAMES = [
    "colour", "Colours", "colours ", " colours", "colours both", "both ways", "early  sum", "four", "sum", "half_sum",
    "sum and colors", "safra", ("colours",), ["colours"], {"colours": "colours"}, ("half", "sum"), 7, "colours\n",
]


class KnownBooks(CallCase):
    def test_names(self):
        self.tells(tuple(TABLE), known_names)
        self.assertEqual(list(known_names()), sorted(TABLE))

    def test_books(self):
        for name, (tests, notes, _) in TABLE.items():
            for many in range(2, 7):
                book = (tuple(tests), tuple((True, tuple(notes)) for _ in range(many)))
                self.tells(book, known_book, name=name, many=many)
                self.assertIsNone(book_error(known_book(name, many)))
                self.assertEqual(known_book(name, many), alike_for(tuple(tests), (True, tuple(notes)), many))

    def test_worlds(self):
        for name, (_, _, worlds) in TABLE.items():
            self.tells(tuple(worlds), known_worlds, name=name)
            self.assertEqual(sorted(known_worlds(name)), list(known_worlds(name)))
            self.assertTrue(all(world_error(world) is None for world in known_worlds(name)))

    def test_no_name(self):
        for name in NO_NAMES + any_values():
            self.raises(Unfit(), known_worlds, name=name)
            for many in (2, 6, 1, None):
                self.raises(Unfit(), known_book, name=name, many=many)

    def test_other_numbers(self):
        for name in TABLE:
            for many in any_values() + [7, 8, -2, 400, "2", "two", (2,), [2], {2: 2}]:
                if type(many) is int and many in (2, 6):
                    continue
                self.raises(Unfit(), known_book, name=name, many=many)

    def test_arguments_exchanged(self):
        for name, many in permutations(("colours", 3, "half sum", True), 2):
            if type(name) is not str or type(many) is not int:
                self.raises(Unfit(), known_book, name=name, many=many)


if __name__ == "__main__":
    unittest.main()
