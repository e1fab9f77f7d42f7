"""The opening of the interface: each name in its file, with its arguments by their places."""

import importlib
import inspect
import unittest

FUNCTIONS = {
    "numbers": [
        ("is_whole", ["thing"]), ("is_name", ["thing"]), ("is_among", ["thing", "least", "most"]),
        ("need_number", ["thing", "least", "most"]),
    ],
    "stretches": [
        ("are_stretches", ["thing"]), ("need_stretches", ["thing"]), ("joined", ["one", "other"]),
        ("met", ["one", "other"]), ("without", ["one", "other"]), ("long_of", ["one"]),
        ("holds", ["one", "begin", "behind"]), ("first_fit", ["one", "minute", "long"]),
    ],
    "marks": [("far", ["one", "other"])],
    "texts": [("book_text", ["book"]), ("read_book", ["text"])],
    "ledger": [
        ("times_done", ["done", "name"]), ("end_of", ["book", "name", "begin"]),
        ("free_from", ["book", "done", "name"]), ("used", ["book", "done", "watcher"]),
    ],
    "rules": [("wrong", ["book", "done", "night", "looks", "since=None"])],
    "best": [
        ("reach", ["book", "done", "night", "since=None"]), ("best", ["book", "done", "night", "since=None"]),
    ],
    "blocked": [
        ("together", ["book", "done", "night", "names"]), ("blocked", ["book", "done", "night", "names"]),
    ],
    "fair": [("turn_order", ["book", "done"]), ("fair", ["book", "done", "night", "since=None"])],
    "bounds": [("bound", ["book", "done", "nights"]), ("gone_through", ["book", "done", "nights"])],
}
# file, class, what it is called with, its methods
CLASSES = [
    (
        "marks", "Mark", ["place", "first", "high", "turn"],
        [("is_high", ["minute"]), ("high_in", ["begin", "behind"]), ("next_high", ["minute", "long"])],
    ),
    (
        "sky", "Sky", ["marks", "moons"],
        [
            ("mark", ["name"]), ("names", []), ("windows", ["name", "begin", "behind"]),
            ("turning", ["one", "other", "speed", "settle"]),
        ],
    ),
    ("wishes", "Wish", ["name", "watcher", "mark", "long", "times", "apart", "worth", "nights"], []),
    (
        "book", "Book", ["sky", "speed", "settle", "nights", "shares", "wishes"],
        [
            ("wish", ["name"]), ("names", []), ("night", ["number"]), ("wanted", ["night"]),
            ("windows", ["name", "night"]), ("share", ["watcher"]), ("watchers", []),
            ("turning", ["one", "other"]), ("without", ["name"]),
        ],
    ),
    (
        "season", "Season", ["book"],
        [
            ("book_now", []), ("night", []), ("minute", []), ("mark", []), ("done", []), ("planned", []),
            ("since", []), ("counted", []), ("over", []), ("deal", ["way"]), ("go", ["minute"]), ("cloud", []),
            ("close", []), ("drop", ["name"]),
        ],
    ),
    ("desk", "Desk", ["text"], [("say", ["line"])]),
]


def arguments(thing):
    """A function's arguments, with what stands for those left out; all can be handed in by their places."""
    told = list(inspect.signature(thing).parameters.values())
    if any(one.kind != one.POSITIONAL_OR_KEYWORD for one in told):
        return None
    return [str(one) for one in told]


class InterfaceTest(unittest.TestCase):

    def test_functions(self):
        for file, rows in FUNCTIONS.items():
            module = importlib.import_module("nightdeal." + file)
            for name, wanted in rows:
                with self.subTest(name):
                    function = getattr(module, name)
                    self.assertTrue(inspect.isfunction(function))
                    self.assertEqual(function.__module__, module.__name__)
                    self.assertEqual(arguments(function), wanted)

    def test_classes(self):
        for file, name, wanted, methods in CLASSES:
            module = importlib.import_module("nightdeal." + file)
            with self.subTest(name):
                kind = getattr(module, name)
                self.assertTrue(inspect.isclass(kind))
                self.assertEqual(kind.__module__, module.__name__)
                self.assertEqual(arguments(kind), wanted)
                for method, told in methods:
                    self.assertEqual(arguments(vars(kind)[method]), ["self"] + told)
