"""[A3], the interface: the errors, their arguments and their kin."""

import unittest

from stillrounds import errors
from stillrounds.errors import (
    BadBook, BadLog, BadText, NothingToRedo, NothingToUndo, Refused, StillError, TooMany, TooManyEdits, Unfit,
)
from tests.helpers import any_values

WITH_FIELD = ((BadBook, "error"), (BadText, "line"), (BadLog, "place"), (Refused, "deed"), (TooMany, "limit"))
WITHOUT = (Unfit, NothingToUndo, NothingToRedo, TooManyEdits)
ALL = tuple(kind for kind, _ in WITH_FIELD) + WITHOUT


class Errors(unittest.TestCase):
    def test_all_are_defined_in_their_file(self):
        for kind in ALL + (StillError,):
            self.assertEqual(kind.__module__, "stillrounds.errors")
            self.assertIs(getattr(errors, kind.__name__), kind)

    def test_each_stands_directly_under_still_error(self):
        self.assertEqual(StillError.__bases__, (ValueError,))
        for kind in ALL:
            self.assertEqual(kind.__bases__, (StillError,))

    def test_fields_are_kept_just_as_they_were_passed(self):
        for kind, name in WITH_FIELD:
            for value in any_values():
                ahead = repr(value)
                for error in (kind(value), kind(**{name: value})):
                    self.assertIs(getattr(error, name), value)
                    self.assertEqual(vars(error), {name: value})
                self.assertEqual(repr(value), ahead)

    def test_fields_are_those_that_are_told_and_no_others(self):
        for kind in WITHOUT:
            self.assertEqual(vars(kind()), {})
        for kind, _ in WITH_FIELD:
            with self.assertRaises(TypeError):
                kind()
            with self.assertRaises(TypeError):
                kind(other=1)

    def test_caught_by_their_own_name_and_the_common_ones_alone(self):
        made = [kind(1) for kind, _ in WITH_FIELD] + [kind() for kind in WITHOUT]
        for error in made:
            for kind in (type(error), StillError, ValueError):
                with self.assertRaises(kind) as caught:
                    raise error
                self.assertIs(caught.exception, error)
            others = [kind for kind in ALL if kind is not type(error)]
            self.assertFalse(isinstance(error, tuple(others)))
