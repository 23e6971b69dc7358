"""Wrong and right values for each kind of argument, and the calls that pass one wrong argument."""

from flashtrees.errors import (InvalidBlocks, InvalidDeed, InvalidImage, InvalidKey, InvalidLuck, InvalidNotes,
                               InvalidNumber, InvalidNumbers, InvalidPage, InvalidPath, InvalidTable, InvalidTree,
                               InvalidValue, NotSound)
from flashtrees.pages import BLANK
from tests.support import GREAT, NO_NUMBERS, NO_TUPLES, nested, wrong_numbers
from tests.values import (BAD_DEEDS, BAD_KEYS, BAD_PAIRS, BAD_PATHS, BAD_TREES, BAD_VALUES, GREATEST, NO_FILE, PAIRS,
                          REMOVE, folder_of)

FULL = (BLANK,) * 5
GOOD = (False, 0, FULL)
DONE = ("done",)


def with_given(error, values):
    return [(value, error(value)) for value in values]


def wrong_rows(error, good, bad):
    """Tuples with a wrong element behind 0, 1 or more good ones, and another wrong one behind it."""
    rows = []
    for value in bad:
        for before in (0, 1, len(good) - 2):
            row = good[:before] + (value,) + good[before + 1:-1] + (bad[0],)
            rows.append((row, error(before)))
        rows.append((good[:-1] + (value,), error(len(good) - 1)))
    return rows


BAD_BLOCKS = NO_TUPLES + [
    (), (False, 0), (False, 0, FULL, 0), (0, 0, FULL), (1, 0, FULL), (None, 0, FULL), ("", 0, FULL),
    (False, -1, FULL), (False, True, FULL), (False, "0", FULL), (False, None, FULL), (False, 0, list(FULL)),
    (False, 0, FULL[1:]), (False, 0, FULL + (BLANK,) * 8), (False, 0, ()), (False, 0, None), (False, 0, nested(38)),
    (False, 0, (BLANK + 1,) + FULL[1:]), (False, 0, FULL[1:] + (-1,)), (False, 0, FULL[1:] + (True,)), [False, 0, FULL]]
BAD_OUTCOMES = NO_NUMBERS + [
    "done", ["done"], ("done", 0), ("cut",), ("fails",), ("cut", -1), ("cut", True), ("fails", None), ("cut", 1, 1),
    ("Done",), ("cuts", 1), (b"done",), (Ellipsis, 1), ("fails", "1"), ["cut", 1], 0, -1, GREAT]

OTHER_FIRST = (False, 0, FULL + (BLANK,))


def wrong_pairs(error):
    """What is no tuple of keys and values, the keys ascending."""
    rows = [(value, error(None)) for value in NO_TUPLES + [list(PAIRS), [], {}]]
    return rows + wrong_rows(error, PAIRS, BAD_PAIRS) + [
        ((PAIRS[0],) * 2, error(1)), (PAIRS[1::-1], error(1)), (PAIRS + PAIRS[3:], error(4)),
        (PAIRS + PAIRS[:1], error(4)), (PAIRS + (None,), error(4)), (PAIRS[0], error(0)),
        ((PAIRS[0], (PAIRS[0][0], None)), error(1)), (PAIRS[:3] + (PAIRS[2],) + PAIRS[:1], error(3)),
        ((PAIRS[1], (("node", 1), ("folder", 0))), error(1))]


def wrong_deeds():
    """What is no tuple of up to 30 deeds."""
    rows = NO_TUPLES + [[REMOVE], [], (REMOVE,) * 31, (None,) * 31, (REMOVE,) * 1000]
    told = [(value, InvalidDeed(value)) for value in rows]
    for value in BAD_DEEDS:
        told += [(rest, InvalidDeed(value)) for rest in ((value,), (REMOVE,) * 29 + (value,), (REMOVE, value, None))]
    return told


WRONG = {
    "page": with_given(InvalidPage, wrong_numbers(0, BLANK)),
    "mask": with_given(InvalidNumber, wrong_numbers(0)),
    "bound": with_given(InvalidNumber, wrong_numbers(5, 12) + [0]),
    "block index": with_given(InvalidNumber, wrong_numbers(0, 6)),
    "page index": with_given(InvalidNumber, wrong_numbers(0, 5)),
    "numbers": [(value, InvalidNumbers(None)) for value in NO_TUPLES + [[1, 2], (0,) * 32, (None,) * 32, (0,) * 1000]]
    + wrong_rows(InvalidNumbers, (0, 65535, 7, 9), wrong_numbers(0, 65535))
    + wrong_rows(InvalidNumbers, (65535,) * 31, wrong_numbers(0, 65535)),
    "checks": [(value, InvalidNumbers(None)) for value in NO_TUPLES + [[1, 2], (), (None,) * 3, (0,) * 5, (0,) * 255,
                                                                        (0,) * 257, (0,) * 512, (0,) * 1000]]
    + wrong_rows(InvalidNumbers, (8, 4, 2, GREAT), wrong_numbers(0))
    + wrong_rows(InvalidNumbers, (5,) * 256, wrong_numbers(0)),
    "image": [(value, InvalidImage(None)) for value in NO_TUPLES + [[GOOD] * 5, (), (GOOD,) * 4, (GOOD,) * 13,
                                                                    (None,) * 4, (0,) * 13]]
    + wrong_rows(InvalidImage, (GOOD,) * 5, BAD_BLOCKS) + wrong_rows(InvalidImage, (GOOD,) * 12, BAD_BLOCKS)
    + [((OTHER_FIRST,) + (GOOD,) * 4, InvalidImage(1)), ((GOOD,) * 4 + (OTHER_FIRST,), InvalidImage(4)),
       (((False, 0, FULL[1:]),) * 5, InvalidImage(0)), (((False, 0, (BLANK,) * 13),) * 5, InvalidImage(0)),
       ((None,) + (OTHER_FIRST, GOOD) * 2, InvalidImage(0))],
    "luck": [(value, InvalidLuck(None)) for value in NO_TUPLES + [[DONE], [("cut", 1)]]]
    + wrong_rows(InvalidLuck, (DONE, ("cut", 0), ("fails", GREAT), DONE), BAD_OUTCOMES)
    + [(DONE, InvalidLuck(0)), (("cut", 1), InvalidLuck(0))],
    "long": with_given(InvalidNumber, wrong_numbers(1, GREATEST)),
    "start up to order": with_given(InvalidNumber, wrong_numbers(1, 7)),
    "flag": with_given(InvalidNumber, wrong_numbers(0, 2)),
    "bads": [(value, InvalidBlocks(None)) for value in NO_TUPLES + [[0], [0, 1]]]
    + wrong_rows(InvalidBlocks, (0, 1, 2, 4), wrong_numbers(0, 4))
    + [((0, 0), InvalidBlocks(1)), ((1, 0), InvalidBlocks(1)), ((0, 2, 2, 1), InvalidBlocks(2)),
       ((4, 5), InvalidBlocks(1)), ((0, 1, 2, 3, 4, 4), InvalidBlocks(5)), ((3, 4, 0), InvalidBlocks(2)),
       ((0,) * 1000, InvalidBlocks(1))],
    "erasures": [(value, InvalidNumbers(None)) for value in NO_TUPLES + [[0] * 5, (), (0,) * 4, (0,) * 6, (None,) * 4,
                                                                          (0,) * 1000]]
    + wrong_rows(InvalidNumbers, (0, 65535, 1, 2, 3), wrong_numbers(0, 65535)),
    "key": with_given(InvalidKey, BAD_KEYS),
    "value of a piece": with_given(InvalidValue, BAD_VALUES["piece"]),
    "block": with_given(InvalidNumber, wrong_numbers(0, 4)),
    "table": wrong_pairs(InvalidTable),
    "sound table": wrong_pairs(InvalidTable) + [(value, NotSound()) for value in (
        PAIRS, PAIRS[:1], ((("name", 0, "b"), 7), (("node", 8), ("file", 0))))],
    "notes": wrong_pairs(InvalidNotes),
    "first": with_given(InvalidNumber, wrong_numbers(2, GREATEST - 8)),
    "spare": with_given(InvalidNumber, wrong_numbers(0, 1) + [3, 4]),
    "held": with_given(InvalidNumber, wrong_numbers(0, 300)),
    "cells": with_given(InvalidNumber, wrong_numbers(0, 256)),
    "deeds": wrong_deeds(),
    "tree": with_given(InvalidTree, BAD_TREES),
    "deed": with_given(InvalidDeed, BAD_DEEDS),
    "path": with_given(InvalidPath, BAD_PATHS),
    "whatever": [],
}
RIGHT = {
    "page": 512, "mask": 1, "bound": 5, "block index": 1, "page index": 1, "numbers": (1, 2), "checks": (2, 1, 1, 0),
    "image": (GOOD,) * 5, "luck": (DONE, ("cut", 1)),
    "long": 7, "start up to order": 7, "flag": 1, "bads": (0, 4), "erasures": (0,) * 5, "key": ("piece", 1, 0),
    "value of a piece": (7,), "block": 4, "table": PAIRS, "tree": folder_of(("a", NO_FILE)), "deed": ("file", ("b",)),
    "path": ("a",), "whatever": None, "sound table": PAIRS[:3], "notes": PAIRS[:3], "first": 2, "spare": 1, "held": 300,
    "cells": 256, "deeds": (REMOVE, ("folder", ("b",))),
}


def wrong_calls(signature):
    """Each way to pass one wrong argument, the ones ahead of it right, those behind it right or wrong."""
    for place, (_, kind) in enumerate(signature):
        ahead = tuple([RIGHT[each] for _, each in signature[:place]])
        right = tuple([RIGHT[each] for _, each in signature[place + 1:]])
        wrong = tuple([WRONG[each][0][0] if WRONG[each] else RIGHT[each] for _, each in signature[place + 1:]])
        for value, error in WRONG[kind]:
            yield ahead + (value,) + right, error
            yield ahead + (value,) + wrong, error
