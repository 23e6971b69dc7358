"""Wrong inputs: which error, for which argument first, what it keeps, and that nothing changes."""

import unittest

from flashtrees import chip as chips
from flashtrees import pages
from flashtrees.chip import Chip, blank_image
from flashtrees.errors import InvalidImage, InvalidLuck, InvalidNumber, InvalidNumbers, InvalidPage, PowerCut
from flashtrees.pages import BLANK
from tests.support import GREAT, NO_NUMBERS, NO_TUPLES, FlashCase, nested, refusal_of, wrong_numbers

FULL = (BLANK,) * 5
GOOD = (False, 0, FULL)
DONE = ("done",)


def with_given(error, values):
    return [(value, error(value)) for value in values]


def wrong_rows(error, good, bad):
    """Tuples with a wrong element behind 0, 1 or more good ones, and another wrong one behind it."""
    rows = []
    for value in bad:
        for before in (0, 1, len(good) - 2):
            row = good[:before] + (value,) + good[before + 1:-1] + (bad[0],)
            rows.append((row, error(before)))
        rows.append((good[:-1] + (value,), error(len(good) - 1)))
    return rows


BAD_BLOCKS = NO_TUPLES + [
    (), (False, 0), (False, 0, FULL, 0), (0, 0, FULL), (1, 0, FULL), (None, 0, FULL), ("", 0, FULL),
    (False, -1, FULL), (False, True, FULL), (False, "0", FULL), (False, None, FULL), (False, 0, list(FULL)),
    (False, 0, FULL[1:]), (False, 0, FULL + (BLANK,) * 8), (False, 0, ()), (False, 0, None), (False, 0, nested(38)),
    (False, 0, (BLANK + 1,) + FULL[1:]), (False, 0, FULL[1:] + (-1,)), (False, 0, FULL[1:] + (True,)), [False, 0, FULL]]
BAD_OUTCOMES = NO_NUMBERS + [
    "done", ["done"], ("done", 0), ("cut",), ("fails",), ("cut", -1), ("cut", True), ("fails", None), ("cut", 1, 1),
    ("Done",), ("cuts", 1), (b"done",), (Ellipsis, 1), ("fails", "1"), ["cut", 1], 0, -1, GREAT]

OTHER_FIRST = (False, 0, FULL + (BLANK,))
WRONG = {
    "page": with_given(InvalidPage, wrong_numbers(0, BLANK)),
    "mask": with_given(InvalidNumber, wrong_numbers(0)),
    "bound": with_given(InvalidNumber, wrong_numbers(5, 12) + [0]),
    "block index": with_given(InvalidNumber, wrong_numbers(0, 6)),
    "page index": with_given(InvalidNumber, wrong_numbers(0, 5)),
    "numbers": [(value, InvalidNumbers(None)) for value in NO_TUPLES + [[1, 2], (0,) * 32, (None,) * 32, (0,) * 1000]]
    + wrong_rows(InvalidNumbers, (0, 65535, 7, 9), wrong_numbers(0, 65535))
    + wrong_rows(InvalidNumbers, (65535,) * 31, wrong_numbers(0, 65535)),
    "checks": [(value, InvalidNumbers(None)) for value in NO_TUPLES + [[1, 2], (), (None,) * 3, (0,) * 5, (0,) * 255,
                                                                        (0,) * 257, (0,) * 512, (0,) * 1000]]
    + wrong_rows(InvalidNumbers, (8, 4, 2, GREAT), wrong_numbers(0))
    + wrong_rows(InvalidNumbers, (5,) * 256, wrong_numbers(0)),
    "image": [(value, InvalidImage(None)) for value in NO_TUPLES + [[GOOD] * 5, (), (GOOD,) * 4, (GOOD,) * 13,
                                                                    (None,) * 4, (0,) * 13]]
    + wrong_rows(InvalidImage, (GOOD,) * 5, BAD_BLOCKS) + wrong_rows(InvalidImage, (GOOD,) * 12, BAD_BLOCKS)
    + [((OTHER_FIRST,) + (GOOD,) * 4, InvalidImage(1)), ((GOOD,) * 4 + (OTHER_FIRST,), InvalidImage(4)),
       (((False, 0, FULL[1:]),) * 5, InvalidImage(0)), (((False, 0, (BLANK,) * 13),) * 5, InvalidImage(0)),
       ((None,) + (OTHER_FIRST, GOOD) * 2, InvalidImage(0))],
    "luck": [(value, InvalidLuck(None)) for value in NO_TUPLES + [[DONE], [("cut", 1)]]]
    + wrong_rows(InvalidLuck, (DONE, ("cut", 0), ("fails", GREAT), DONE), BAD_OUTCOMES)
    + [(DONE, InvalidLuck(0)), (("cut", 1), InvalidLuck(0))],
}
RIGHT = {
    "page": 512, "mask": 1, "bound": 5, "block index": 1, "page index": 1, "numbers": (1, 2), "checks": (2, 1, 1, 0),
    "image": (GOOD,) * 5, "luck": (DONE, ("cut", 1)),
}
FUNCTIONS = (
    (pages.is_blank, ("page", "page")),
    (pages.is_within, ("page", "page"), ("other", "page")),
    (pages.zeros_in, ("page", "page")),
    (pages.state_of, ("page", "page")),
    (pages.word_of, ("numbers", "numbers")),
    (pages.told_by, ("page", "page")),
    (pages.programmed, ("old", "page"), ("word", "page"), ("mask", "mask")),
    (pages.erased, ("old", "page"), ("mask", "mask")),
    (pages.program_may_leave, ("old", "page"), ("word", "page"), ("result", "page")),
    (pages.erase_may_leave, ("old", "page"), ("result", "page")),
    (pages.clash, ("checks", "checks")),
    (chips.blank_image, ("blocks", "bound"), ("pages", "bound")),
    (chips.Chip, ("image", "image"), ("luck", "luck")),
)
METHODS = (
    ("read", ("block", "block index"), ("page", "page index")),
    ("program", ("block", "block index"), ("page", "page index"), ("word", "page")),
    ("erase", ("block", "block index")),
)


def wrong_calls(signature):
    """Each way to pass one wrong argument, the ones ahead of it right, those behind it right or wrong."""
    for place, (_, kind) in enumerate(signature):
        ahead = tuple([RIGHT[each] for _, each in signature[:place]])
        right = tuple([RIGHT[each] for _, each in signature[place + 1:]])
        wrong = tuple([WRONG[each][0][0] for _, each in signature[place + 1:]])
        for value, error in WRONG[kind]:
            yield ahead + (value,) + right, error
            yield ahead + (value,) + wrong, error


def chip_of_seven():
    """A chip of unlike numbers of blocks and pages that would fail and then be cut."""
    block = (False, 3, (512,) + FULL)
    return Chip(((True,) + block[1:],) + (block,) * 6, (("fails", 1), ("cut", 1)))


class WrongTest(FlashCase):
    def test_functions(self):
        for function, *signature in FUNCTIONS:
            for passed, error in wrong_calls(signature):
                self.assert_refused(error, function, *passed)
                named = {name: value for (name, _), value in zip(signature, passed)}
                self.assert_refused(error, function, **named)

    def test_right_calls_of_functions(self):
        for function, *signature in FUNCTIONS:
            passed = [RIGHT[kind] for _, kind in signature]
            self.assertIsNone(refusal_of(function, *passed))
            named = {name: RIGHT[kind] for name, kind in signature}
            self.assertIsNone(refusal_of(function, **named))

    def test_methods_and_that_nothing_changes(self):
        for name, *signature in METHODS:
            chip = chip_of_seven()
            left = chip.image()
            for passed, error in wrong_calls(signature):
                self.assert_refused(error, getattr(chip, name), *passed)
                named = {each: value for (each, _), value in zip(signature, passed)}
                self.assert_refused(error, getattr(chip, name), **named)
            self.assertEqual((chip.image(), chip.operations(), chip.is_cut()), (left, 0, False))
            self.assertIs(chip.erase(6), False)
            self.assert_refused(PowerCut(), chip.program, 5, 5, 512)
            self.assertEqual(chip.image()[5], (False, 3, (512,) + FULL[1:] + (513,)))

    def test_wrong_arguments_ahead_of_the_power_that_is_gone(self):
        for name, *signature in METHODS:
            chip = chip_of_seven()
            chip.erase(1)
            self.assert_refused(PowerCut(), chip.erase, 2)
            left = chip.image()
            for passed, error in wrong_calls(signature):
                self.assert_refused(error, getattr(chip, name), *passed)
            right = [RIGHT[kind] for _, kind in signature]
            self.assert_refused(PowerCut(), getattr(chip, name), *right)
            self.assertEqual((chip.image(), chip.operations(), chip.is_cut()), (left, 2, True))

    def test_wrong_arguments_for_a_bad_block(self):
        for name, *signature in METHODS:
            chip = chip_of_seven()
            for passed, error in wrong_calls(signature):
                if passed[0].__class__ is int and passed[0] == 1:
                    self.assert_refused(error, getattr(chip, name), 0, *passed[1:])

    def test_right_ends_of_indexes(self):
        for block in (0, 6):
            for page in (0, 5):
                chip = Chip(blank_image(7, 6), ())
                self.assertEqual(chip.read(block, page), BLANK)
                self.assertIs(chip.program(block, page, BLANK), True)
                self.assertIs(chip.program(block, page, 0), True)
                self.assertEqual(chip.read(block, page), 0)
                self.assertIs(chip.erase(block), True)


if __name__ == "__main__":
    unittest.main()
