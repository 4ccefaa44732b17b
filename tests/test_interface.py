"""The interface: each name in its own file, with the arguments that are told."""

import importlib
import inspect
import unittest

FUNCTIONS = {
    "books": {
        "book_error": ["value"],
        "world_error": ["value"],
        "alike_for": ["tests", "manner", "many"],
    },
    "booktexts": {
        "book_text": ["book"],
        "read_book": ["value"],
        "world_text": ["world"],
        "read_world": ["value"],
    },
    "knownbooks": {
        "known_names": [],
        "known_book": ["name", "many"],
        "known_worlds": ["name"],
    },
    "standings": {
        "start": ["works"],
        "standing_error": ["many", "value"],
    },
    "moving": {
        "deed_error": ["book", "world", "standing", "value"],
        "open_deeds": ["book", "world", "standing"],
        "after": ["book", "world", "standing", "deed"],
        "led": ["book", "world", "works", "deeds"],
    },
    "runtexts": {
        "run_text": ["works", "deeds"],
        "read_run": ["value"],
    },
    "rounds": {
        "is_still": ["standing"],
        "holding": ["ahead", "now"],
        "rounds_of": ["book", "world", "works", "deeds"],
    },
    "lots": {
        "lots": [],
        "least_lot": ["tests"],
    },
    "rows": {
        "rows": ["world"],
    },
    "safety": {
        "falls": ["book", "world"],
        "is_safe": ["book", "world"],
        "safe_from": ["tests", "manner", "world"],
    },
    "leasts": {
        "needless": ["book", "world"],
        "fewest_notes": ["tests", "many", "world"],
    },
    "losing": {
        "losing": ["book", "world"],
    },
    "losejudge": {
        "losing_error": ["book", "world", "value"],
    },
    "wandering": {
        "come": ["book", "world", "works", "letters"],
        "earliest": ["book", "world", "letters"],
    },
    "epochs": {
        "list_error": ["many", "value"],
        "woken": ["many", "some"],
        "comes": ["many", "some"],
        "sums_of": ["many", "some"],
    },
    "epochruns": {
        "run_of": ["many", "some"],
        "list_of": ["many", "works", "deeds"],
    },
    "soon": {
        "visits_left": ["book", "world", "standing"],
        "most_visits": ["book", "world"],
        "longest": ["book", "world"],
        "longest_error": ["book", "world", "value"],
    },
    "carrying": {
        "carried": ["tests"],
        "kept": ["tests"],
        "suffices": ["tests", "forms"],
        "confusing": ["tests", "forms"],
        "confusing_error": ["tests", "forms", "value"],
        "told_apart": ["tests", "one", "other"],
    },
    "whenever": {
        "says_whenever": ["one", "other"],
        "parting": ["one", "other"],
        "parting_error": ["one", "other", "value"],
    },
    "logtexts": {
        "log_text": ["log"],
        "read_log": ["many", "value"],
        "keeper_behind": ["book", "world", "works", "value"],
    },
}
CLASSES = {
    ("keepers", "Keeper"): {
        "__init__": ["book", "world", "works"], "opened": [], "still": [], "do": ["deed"], "undo": [], "redo": [],
        "twin": [], "__eq__": ["other"],
    },
    ("shells", "Shell"): {"__init__": [], "say": ["line"]},
}


class Interface(unittest.TestCase):
    def test_functions(self):
        for file, functions in FUNCTIONS.items():
            module = importlib.import_module(f"stillrounds.{file}")
            for name, arguments in functions.items():
                with self.subTest(file=file, name=name):
                    function = getattr(module, name)
                    self.assertTrue(inspect.isfunction(function))
                    self.assertEqual(function.__module__, module.__name__)
                    parameters = inspect.signature(function).parameters.values()
                    self.assertEqual([each.name for each in parameters], arguments)
                    self.assertTrue(all(each.default is each.empty for each in parameters))
                    self.assertTrue(all(each.kind is each.POSITIONAL_OR_KEYWORD for each in parameters))

    def test_classes(self):
        for (file, name), methods in CLASSES.items():
            module = importlib.import_module(f"stillrounds.{file}")
            kind = getattr(module, name)
            self.assertTrue(inspect.isclass(kind))
            self.assertEqual(kind.__module__, module.__name__)
            for method, arguments in methods.items():
                with self.subTest(name=name, method=method):
                    parameters = list(inspect.signature(vars(kind)[method]).parameters.values())[1:]
                    self.assertEqual([each.name for each in parameters], arguments)
                    self.assertTrue(all(each.default is each.empty for each in parameters))

    def test_attributes_of_new_keepers(self):
        book = ((), ((True, ()),) * 2)
        keeper = importlib.import_module("stillrounds.keepers").Keeper(book, ("slow", "anew"), (True, True))
        for name in ("book", "world", "works", "standing", "deeds", "version", "undone"):
            self.assertIn(name, vars(keeper))
