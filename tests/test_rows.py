"""[D1], [D2]: the rows of each world, as the tables print them."""

import unittest

from stillrounds.rows import rows
from tests.bookkinds import TESTS, WORDS, WORLDS
from tests.helpers import CallCase
from tests.rowtables import ONCE, ONCE_ANEW, ROWS, SLOW, SLOW_ANEW


class Rows(CallCase):
    def test_row_by_row(self):
        for world in WORLDS:
            self.tells(ROWS[world], rows, world=world)
            for number, row in enumerate(rows(world)):
                self.assertEqual(row, ROWS[world][number], (world, number))

    def test_how_many(self):
        self.assertEqual([len(rows(world)) for world in (SLOW, ONCE, SLOW_ANEW, ONCE_ANEW)], [11, 10, 13, 14])

    def test_shapes(self):
        for world in WORLDS:
            for equalities, entries, extra in rows(world):
                self.assertEqual(equalities, tuple(test for test in TESTS if test in equalities))
                for awake, words in entries:
                    self.assertIs(type(awake), bool)
                    self.assertEqual(words, tuple(word for word in WORDS if word in words))
                    self.assertTrue(words)
                self.assertIn(extra, ("", "below", "third"))
                self.assertTrue(extra == "" or len(entries) == 2)

    def test_some_rows_written_out(self):
        both = (("G1", "S1"), ("G2", "S2"))
        self.assertEqual(rows(SLOW_ANEW)[4], (both, ((False, ("got lower", "sent higher")),), ""))
        self.assertEqual(rows(SLOW_ANEW)[5], (both, ((False, ("got higher", "sent lower")),), ""))
        self.assertEqual(rows(SLOW_ANEW)[10], (both, ((True, ("sent higher",)), (False, ("got lower",))), ""))
        self.assertEqual(rows(ONCE_ANEW)[12], (both, ((True, ("sent lower",)), (False, ("got higher",))), "third"))
        self.assertEqual(rows(ONCE)[9], (both, ((True, ("sent higher",)), (False, ("got lower", "sent lower"))), "below"))


if __name__ == "__main__":
    unittest.main()
