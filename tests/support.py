"""What several tests need: odd values, seeded pages and masks, and how a refusal is looked at."""

import random
import unittest

from flashtrees.errors import FlashError
from flashtrees.pages import BLANK, WIDTH, word_of


class Alike:
    """Equal to everything, and so taken for anything by a check that only compares."""

    def __eq__(self, other):
        return True

    def __hash__(self):
        return 0


def nested(depth):
    value = ()
    for _ in range(depth):
        value = (value,)
    return value


GREAT = 10 ** 3999
NO_NUMBERS = [None, True, False, "1", "", b"1", (), (1,), [], [1], {}, {1: 1}, {1}, frozenset(), object(), len,
              Alike(), nested(40)]
NO_TUPLES = [None, True, False, 0, 1, -1, GREAT, "", "ab", b"", b"ab", [], [1], {}, {1}, object(), Alike()]


def wrong_numbers(least, most=None):
    """Values that are no whole number within the bounds, those just outside among them."""
    return NO_NUMBERS + [least - 1, -GREAT] + ([] if most is None else [most + 1, GREAT])


def seeded(seed):
    return random.Random(seed)


def some_page(luck):
    """A page with few, about half or most of its bits 1."""
    one, two = luck.getrandbits(WIDTH), luck.getrandbits(WIDTH)
    return luck.choice((one, one & two, one | two, BLANK, 0, one & two & luck.getrandbits(WIDTH)))


def some_word(luck):
    """A whole page."""
    return word_of(tuple([luck.choice((0, 65535, luck.getrandbits(16))) for _ in range(luck.randrange(32))]))


def some_mask(luck, bits=WIDTH):
    """A mask with no bit, few, about half, most or all of its bits 1, or bits beyond."""
    one, two, three = [luck.getrandbits(bits) for _ in range(3)]
    full = (1 << bits) - 1
    few = 1 << luck.randrange(bits)
    return luck.choice((0, one & two & three, one, one | two | three, full, few, full - few, one << 70, full * 2 + 1))


def refusal_of(call, *args, **named):
    """The class and the attributes of the error that a call raises; None if it raises none."""
    try:
        call(*args, **named)
    except FlashError as error:
        return error.__class__, vars(error)
    return None


class FlashCase(unittest.TestCase):
    def assert_refused(self, error, call, *args, **named):
        """That a call raises an error of just this class with just these attributes, the very same values."""
        told = refusal_of(call, *args, **named)
        self.assertIsNotNone(told, (call, args, named))
        kind, kept = told
        self.assertIs(kind, error.__class__, (args, named))
        self.assertEqual(list(kept), list(vars(error)), (args, named))
        for name, value in vars(error).items():
            if name == "index" and value is not None:
                self.assertIs(kept[name].__class__, int)
                self.assertEqual(kept[name], value, (args, named))
            elif name == "word":
                self.assertEqual(kept[name], value, (args, named))
            else:
                self.assertIs(kept[name], value, (args, named))
