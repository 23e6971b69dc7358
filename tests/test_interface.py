"""The interface: each name in its own file, with the arguments as written."""

import inspect
import unittest

from flashtrees import (certificates, checker, chip, desk, errors, examiner, notes, pages, reading, shelf, store, trees,
                        turning)

GIVEN, INDEX = ("self", "given"), ("self", "index")
OF_IMAGE = ("kinds_in", "start_of", "listed", "notes_in", "counting", "table_of", "greatest_deed", "greatest_node",
            "known_erasures", "known_bads", "is_orderly")
FUNCTIONS = {
    pages: {
        "is_page": ("value",), "is_blank": ("page",), "is_within": ("page", "other"), "zeros_in": ("page",),
        "state_of": ("page",), "word_of": ("numbers",), "told_by": ("page",), "programmed": ("old", "word", "mask"),
        "erased": ("old", "mask"), "program_may_leave": ("old", "word", "result"),
        "erase_may_leave": ("old", "result"), "clash": ("checks",)},
    chip: {"is_image": ("value",), "blank_image": ("blocks", "pages"), "is_luck": ("value",)},
    notes: {
        "head_numbers": ("many", "order", "start", "bads", "erasures"),
        "note_numbers": ("deed", "flag", "key", "value"),
        "drop_numbers": ("start",), "told_of": ("many", "numbers"), "is_key": ("value",), "is_value": ("key", "value"),
        "is_name": ("value",)},
    reading: {**{name: ("image",) for name in OF_IMAGE}, "told_by_table": ("table",), "next_page": ("image", "block")},
    trees: {
        "is_tree": ("value",), "is_deed": ("value",), "is_path": ("value",), "node_at": ("tree", "path"),
        "refusal": ("tree", "deed"), "behind": ("tree", "deed"), "paths_of": ("tree",), "links_of": ("tree", "path")},
    turning: {
        "is_sound": ("table",), "tree_told": ("table",), "live_keys": ("table",),
        "notes_for": ("table", "first", "deed"),
        "table_behind": ("table", "notes"), "table_for": ("tree",)},
    store: {"opened_tree": ("image",), "played": ("image", "luck", "spare", "held", "deeds")},
    examiner: {"findings": ("image",), "may_erase": ("image", "block")},
    checker: {"accepts": ("claim", "paper")},
    certificates: {
        "certify_image": ("image",), "certify_opens": ("image", "tree"),
        "certify_program": ("image", "block", "page", "word", "tree"), "certify_erase": ("image", "block"),
        "certify_played": ("image", "luck", "spare", "held", "deeds")},
}
METHODS = {
    chip.Chip: {
        "__init__": ("self", "image", "luck"), "read": ("self", "block", "page"),
        "program": ("self", "block", "page", "word"), "erase": ("self", "block"), "image": ("self",),
        "size": ("self",), "operations": ("self",), "is_cut": ("self",)},
    shelf.Shelf: {
        "__init__": ("self", "chip", "spare"), "table": ("self",), "do": ("self", "notes"), "live": ("self",),
        "space": ("self",), "free": ("self",), "reserve": ("self",)},
    store.Store: {
        "__init__": ("self", "chip", "spare", "held"), "live": ("self",), "do": ("self", "deed"), "sync": ("self",),
        "why_not": ("self", "deed"), "tree": ("self",), "names": ("self", "path"),
        "cells": ("self", "path", "at", "many"),
        "pause": ("self",), "resume": ("self",)},
    desk.Desk: {"__init__": ("self",), "say": ("self", "line"), "image": ("self",)},
    errors.InvalidPage: {"__init__": GIVEN}, errors.InvalidNumber: {"__init__": GIVEN},
    errors.InvalidKey: {"__init__": GIVEN}, errors.InvalidValue: {"__init__": GIVEN},
    errors.InvalidTree: {"__init__": GIVEN}, errors.InvalidDeed: {"__init__": GIVEN},
    errors.InvalidPath: {"__init__": GIVEN}, errors.InvalidLine: {"__init__": GIVEN},
    errors.Refused: {"__init__": ("self", "word")}, errors.InvalidNumbers: {"__init__": INDEX},
    errors.InvalidImage: {"__init__": INDEX}, errors.InvalidLuck: {"__init__": INDEX},
    errors.InvalidBlocks: {"__init__": INDEX}, errors.InvalidTable: {"__init__": INDEX},
    errors.InvalidNotes: {"__init__": INDEX},
}


class InterfaceTest(unittest.TestCase):
    def assert_signature(self, called, names):
        parameters = list(inspect.signature(called).parameters.values())
        self.assertEqual(tuple([each.name for each in parameters]), names, called)
        for each in parameters:
            self.assertEqual((each.kind, each.default), (each.POSITIONAL_OR_KEYWORD, each.empty), called)

    def test_functions(self):
        for module, functions in FUNCTIONS.items():
            for name, names in functions.items():
                self.assertEqual(getattr(module, name).__module__, module.__name__)
                self.assert_signature(getattr(module, name), names)

    def test_methods_stand_in_the_class_itself(self):
        for owner, methods in METHODS.items():
            for name, names in methods.items():
                self.assertIn(name, vars(owner))
                self.assert_signature(vars(owner)[name], names)

    def test_properties_stand_in_the_class_itself(self):
        for owner, names in ((shelf.Shelf, ("room", "bads")), (store.Store, ("room", "waiting", "done", "written"))):
            for name in names:
                self.assertIsInstance(vars(owner)[name], property)
                self.assertIsNone(vars(owner)[name].fset)

    def test_plain_names(self):
        self.assertEqual((pages.WIDTH, pages.BLANK, trees.EMPTY), (522, 2 ** 522 - 1, ("folder", ())))

    def test_classes_stand_in_their_files(self):
        for module, name in ((chip, "Chip"), (shelf, "Shelf"), (store, "Store"), (desk, "Desk")):
            self.assertEqual(getattr(module, name).__module__, module.__name__)
        for value in vars(errors).values():
            if inspect.isclass(value):
                self.assertEqual(value.__module__, "flashtrees.errors")


if __name__ == "__main__":
    unittest.main()
