"""Wrong inputs: which error, for which argument first, what it keeps, and that nothing changes."""

import unittest

from flashtrees import chip as chips
from flashtrees import certificates, examiner, notes, pages, reading, shelf, store, trees, turning
from flashtrees.chip import Chip, blank_image
from flashtrees.errors import InvalidNumber, PowerCut
from flashtrees.pages import BLANK
from tests.support import FlashCase, refusal_of, wrong_numbers
from tests.wrongs import FULL, RIGHT, wrong_calls

FUNCTIONS = (
    (pages.is_blank, ("page", "page")),
    (pages.is_within, ("page", "page"), ("other", "page")),
    (pages.zeros_in, ("page", "page")),
    (pages.state_of, ("page", "page")),
    (pages.word_of, ("numbers", "numbers")),
    (pages.told_by, ("page", "page")),
    (pages.programmed, ("old", "page"), ("word", "page"), ("mask", "mask")),
    (pages.erased, ("old", "page"), ("mask", "mask")),
    (pages.program_may_leave, ("old", "page"), ("word", "page"), ("result", "page")),
    (pages.erase_may_leave, ("old", "page"), ("result", "page")),
    (pages.clash, ("checks", "checks")),
    (chips.blank_image, ("blocks", "bound"), ("pages", "bound")),
    (chips.Chip, ("image", "image"), ("luck", "luck")),
    (notes.head_numbers, ("many", "bound"), ("order", "long"), ("start", "start up to order"), ("bads", "bads"),
     ("erasures", "erasures")),
    (notes.note_numbers, ("deed", "long"), ("flag", "flag"), ("key", "key"), ("value", "value of a piece")),
    (notes.drop_numbers, ("start", "long")),
    (notes.told_of, ("many", "bound"), ("numbers", "numbers")),
    (notes.is_value, ("key", "key"), ("value", "whatever")),
    (reading.kinds_in, ("image", "image")),
    (reading.start_of, ("image", "image")),
    (reading.listed, ("image", "image")),
    (reading.notes_in, ("image", "image")),
    (reading.counting, ("image", "image")),
    (reading.table_of, ("image", "image")),
    (reading.told_by_table, ("table", "table")),
    (reading.next_page, ("image", "image"), ("block", "block")),
    (reading.greatest_deed, ("image", "image")),
    (reading.greatest_node, ("image", "image")),
    (reading.known_erasures, ("image", "image")),
    (reading.known_bads, ("image", "image")),
    (reading.is_orderly, ("image", "image")),
    (trees.node_at, ("tree", "tree"), ("path", "path")),
    (trees.refusal, ("tree", "tree"), ("deed", "deed")),
    (trees.behind, ("tree", "tree"), ("deed", "deed")),
    (trees.paths_of, ("tree", "tree")),
    (trees.links_of, ("tree", "tree"), ("path", "path")),
    (turning.is_sound, ("table", "table")),
    (turning.tree_told, ("table", "sound table")),
    (turning.live_keys, ("table", "sound table")),
    (turning.notes_for, ("table", "sound table"), ("first", "first"), ("deed", "deed")),
    (turning.table_behind, ("table", "sound table"), ("notes", "notes")),
    (turning.table_for, ("tree", "tree")),
    (store.opened_tree, ("image", "image")),
    (store.played, ("image", "image"), ("luck", "luck"), ("spare", "spare"), ("held", "held"), ("deeds", "deeds")),
    (examiner.findings, ("image", "image")),
    (examiner.may_erase, ("image", "image"), ("block", "block")),
    (certificates.certify_image, ("image", "image")),
    (certificates.certify_opens, ("image", "image"), ("tree", "tree")),
    (certificates.certify_program, ("image", "image"), ("block", "block"), ("page", "block"), ("word", "page"),
     ("tree", "tree")),
    (certificates.certify_erase, ("image", "image"), ("block", "block")),
    (certificates.certify_played, ("image", "image"), ("luck", "luck"), ("spare", "spare"), ("held", "held"),
     ("deeds", "deeds")),
)
SHELF_METHODS = (("do", ("notes", "notes")),)
STORE_METHODS = (("do", ("deed", "deed")), ("why_not", ("deed", "deed")), ("names", ("path", "path")),
                 ("cells", ("path", "path"), ("at", "cells"), ("many", "cells")))
METHODS = (
    ("read", ("block", "block index"), ("page", "page index")),
    ("program", ("block", "block index"), ("page", "page index"), ("word", "page")),
    ("erase", ("block", "block index")),
)


def chip_of_seven():
    """A chip of unlike numbers of blocks and pages that would fail and then be cut."""
    block = (False, 3, (512,) + FULL)
    return Chip(((True,) + block[1:],) + (block,) * 6, (("fails", 1), ("cut", 1)))


class WrongTest(FlashCase):
    def test_functions(self):
        for function, *signature in FUNCTIONS:
            for passed, error in wrong_calls(signature):
                self.assert_refused(error, function, *passed)
                named = {name: value for (name, _), value in zip(signature, passed)}
                self.assert_refused(error, function, **named)

    def test_right_calls_of_functions(self):
        for function, *signature in FUNCTIONS:
            passed = [RIGHT[kind] for _, kind in signature]
            self.assertIsNone(refusal_of(function, *passed))
            named = {name: RIGHT[kind] for name, kind in signature}
            self.assertIsNone(refusal_of(function, **named))

    def test_methods_and_that_nothing_changes(self):
        for name, *signature in METHODS:
            chip = chip_of_seven()
            left = chip.image()
            for passed, error in wrong_calls(signature):
                self.assert_refused(error, getattr(chip, name), *passed)
                named = {each: value for (each, _), value in zip(signature, passed)}
                self.assert_refused(error, getattr(chip, name), **named)
            self.assertEqual((chip.image(), chip.operations(), chip.is_cut()), (left, 0, False))
            self.assertIs(chip.erase(6), False)
            self.assert_refused(PowerCut(), chip.program, 5, 5, 512)
            self.assertEqual(chip.image()[5], (False, 3, (512,) + FULL[1:] + (513,)))

    def test_wrong_arguments_ahead_of_the_power_that_is_gone(self):
        for name, *signature in METHODS:
            chip = chip_of_seven()
            chip.erase(1)
            self.assert_refused(PowerCut(), chip.erase, 2)
            left = chip.image()
            for passed, error in wrong_calls(signature):
                self.assert_refused(error, getattr(chip, name), *passed)
            right = [RIGHT[kind] for _, kind in signature]
            self.assert_refused(PowerCut(), getattr(chip, name), *right)
            self.assertEqual((chip.image(), chip.operations(), chip.is_cut()), (left, 2, True))

    def test_wrong_arguments_for_a_bad_block(self):
        for name, *signature in METHODS:
            chip = chip_of_seven()
            for passed, error in wrong_calls(signature):
                if passed[0].__class__ is int and passed[0] == 1:
                    self.assert_refused(error, getattr(chip, name), 0, *passed[1:])

    def assert_methods(self, owner, methods):
        """That each wrong argument is refused, by position and by name."""
        for name, *signature in methods:
            for passed, error in wrong_calls(signature):
                self.assert_refused(error, getattr(owner, name), *passed)
            named = {each: value for (each, _), value in zip(signature, passed)}
            self.assert_refused(error, getattr(owner, name), **named)

    def test_shelves_and_stores_and_that_nothing_changes(self):
        for make, methods in ((lambda chip: shelf.Shelf(chip, 1), SHELF_METHODS),
                              (lambda chip: store.Store(chip, 1, 0), STORE_METHODS)):
            chip = Chip(blank_image(5, 5), ())
            owner = make(chip)
            self.assert_methods(owner, methods)
            self.assertEqual((chip.image(), chip.operations()), (blank_image(5, 5), 0))
            # Wrong arguments are told ahead of the power that is gone.
            cut = Chip(blank_image(5, 5), (("cut", 0),))
            owner = make(cut)
            self.assert_refused(PowerCut(), cut.erase, 0)
            self.assert_methods(owner, methods)
            for name, *signature in methods:
                self.assert_refused(PowerCut(), getattr(owner, name), *[RIGHT[kind] for _, kind in signature])

    def test_opening_shelves_and_stores(self):
        for many in range(5, 13):
            most = min(3, many - 4)
            for is_cut in (False, True):
                chip = Chip(blank_image(many, 5), (("cut", 0),))
                if is_cut:
                    self.assert_refused(PowerCut(), chip.erase, 0)
                for value in wrong_numbers(0, most) + [4, many]:
                    self.assert_refused(InvalidNumber(value), shelf.Shelf, chip, value)
                    self.assert_refused(InvalidNumber(value), store.Store, chip, value, None)
                    self.assert_refused(InvalidNumber(value), store.Store, chip=chip, spare=value, held=0)
                for value in wrong_numbers(0, 300):
                    self.assert_refused(InvalidNumber(value), store.Store, chip, most, value)
            for held in (0, 1, 300):
                chip = Chip(blank_image(many, 5), ())
                self.assertEqual(store.Store(chip=chip, spare=most, held=held).room,
                                 shelf.Shelf(chip=chip, spare=most).room)

    def test_right_ends_of_indexes(self):
        for block in (0, 6):
            for page in (0, 5):
                chip = Chip(blank_image(7, 6), ())
                self.assertEqual(chip.read(block, page), BLANK)
                self.assertIs(chip.program(block, page, BLANK), True)
                self.assertIs(chip.program(block, page, 0), True)
                self.assertEqual(chip.read(block, page), 0)
                self.assertIs(chip.erase(block), True)


if __name__ == "__main__":
    unittest.main()
