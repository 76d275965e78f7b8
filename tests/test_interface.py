import importlib
import inspect
import unittest

from boughbook.desk import Desk

INTERFACE = {
    "trees": {
        "kinds_of": ["pairs"],
        "many_of": ["kinds", "name"],
        "fits": ["kinds", "tree"],
        "knots": ["tree"],
        "tall": ["tree"],
        "places": ["tree"],
        "knot_at": ["tree", "place"],
        "put_at": ["tree", "place", "other"],
    },
    "treetext": {
        "shown_tree": ["tree"],
        "read_tree": ["kinds", "text"],
    },
    "patterns": {
        "fits_pattern": ["kinds", "pattern", "states", "kids"],
        "knots_of": ["pattern"],
        "tall_of": ["pattern"],
        "calls_in": ["pattern"],
        "filled": ["pattern", "table"],
        "holes_in": ["front"],
        "lies_on": ["front", "thing"],
        "common": ["one", "two"],
        "parts_at": ["front", "thing"],
        "hung": ["front", "parts"],
    },
    "books": {
        "made_book": ["ins", "outs", "head", "rules"],
        "states_of": ["book"],
        "pattern_of": ["book", "state", "name"],
    },
    "running": {
        "turned": ["book", "tree"],
        "turned_by": ["book", "state", "tree"],
    },
    "counting": {
        "count_of": ["book", "tree"],
        "count_by": ["book", "state", "tree"],
        "height_of": ["book", "tree"],
        "height_by": ["book", "state", "tree"],
    },
    "peeking": {
        "peeked": ["book", "tree", "place"],
        "peeked_by": ["book", "state", "tree", "place"],
    },
    "sharing": {
        "shared_row": ["tree"],
        "shared": ["book", "tree"],
        "unshared": ["pair"],
    },
    "booktext": {
        "shown_pattern": ["pattern"],
        "shown_book": ["book"],
        "read_book": ["text"],
    },
    "joining": {
        "same_book": ["kinds"],
        "joined": ["first", "second"],
        "trimmed": ["book"],
    },
    "whence": {
        "notes_of": ["book", "wish"],
        "whence": ["book", "wish"],
    },
    "fronts": {
        "fronts_of": ["book"],
        "partings_of": ["book"],
    },
    "earliest": {
        "earliest": ["book"],
    },
    "alike": {
        "pairs_of": ["one", "two"],
        "alike": ["one", "two"],
        "parted": ["one", "two"],
    },
    "least": {
        "least": ["book"],
        "classes_of": ["book"],
    },
    "origins": {
        "origin_at": ["book", "tree", "place"],
    },
    "desk": {
        "Desk": [],
    },
}

DESK = {
    "take": ["name", "text"],
    "drop": ["name"],
    "names": [],
    "turn": ["names", "text"],
    "told_alike": ["name", "other"],
    "told_least": ["name"],
}


class Interface(unittest.TestCase):
    def test_names_and_arguments(self):
        for module, functions in INTERFACE.items():
            held = importlib.import_module("boughbook." + module)
            for name, arguments in functions.items():
                told = list(inspect.signature(getattr(held, name)).parameters)
                self.assertEqual(told, arguments, (module, name))

    def test_methods_of_the_desk(self):
        for name, arguments in DESK.items():
            told = list(inspect.signature(getattr(Desk(), name)).parameters)
            self.assertEqual(told, arguments, name)
