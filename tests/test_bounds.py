"""The six numbers of the interface."""

import unittest

from stillrounds import bounds


class Bounds(unittest.TestCase):
    def test_numbers(self):
        wanted = {
            "MAX_MACHINES": 6, "MAX_DEEDS": 400, "MAX_COME": 300,
            "MAX_LETTERS": 3, "MAX_LISTED": 12, "MAX_EDITS": 60,
        }
        for name, number in wanted.items():
            with self.subTest(name=name):
                self.assertIs(type(getattr(bounds, name)), int)
                self.assertEqual(getattr(bounds, name), number)
