"""Books of check numbers: [A7], as clash of flashtrees/pages.py tells it."""

import itertools
import unittest

from flashtrees.pages import clash
from tests.support import GREAT, seeded


def clashes(checks, low, high):
    """Whether LOW clashes with HIGH, bit by bit."""
    data = all(not low >> k & 1 or high >> k & 1 for k in range(9))
    bits = max(checks[low].bit_length(), 1)
    return low != high and data and all(not checks[low] >> k & 1 or checks[high] >> k & 1 for k in range(bits))


def any_clash(checks):
    return any(clashes(checks, low, high) for low in range(len(checks)) for high in range(len(checks)))


def zeros_book(bits):
    return tuple([bits - bin(data).count("1") for data in range(2 ** bits)])


class BookTest(unittest.TestCase):
    def assert_clash(self, checks):
        pair = clash(checks)
        self.assertIs(pair.__class__, tuple)
        self.assertEqual(len(pair), 2)
        self.assertTrue(clashes(checks, *pair), pair)

    def test_the_number_of_zeros_never_clashes(self):
        for bits in range(9):
            self.assertIsNone(clash(zeros_book(bits)))

    def test_fewer_checks_than_bits_and_one_clash(self):
        for bits in range(1, 9):
            luck = seeded(bits)
            for _ in range(20):
                values = [luck.getrandbits(20) for _ in range(bits)]
                self.assert_clash(tuple([luck.choice(values) for _ in range(2 ** bits)]))

    def test_a_book_without_a_clash_has_more_checks_than_bits(self):
        for size in (1, 2, 4):
            for checks in itertools.product(range(4), repeat=size):
                if clash(checks) is None:
                    self.assertGreater(len(set(checks)), size.bit_length() - 1)

    def test_all_small_books(self):
        for size, top in ((1, 9), (2, 8), (4, 5), (8, 3)):
            for checks in itertools.product(range(top), repeat=size):
                if any_clash(checks):
                    self.assert_clash(checks)
                else:
                    self.assertIsNone(clash(checks))

    def test_one_wrong_check_clashes(self):
        for bits in range(1, 9):
            book = zeros_book(bits)
            for data in {0, 2 ** (bits - 1) - 1, 2 ** bits - 2}:
                self.assert_clash(book[:data] + (0,) + book[data + 1:])
            self.assert_clash(book[:-1] + (2 ** 20 - 1,))

    def test_one_number_never_clashes(self):
        for check in (0, 1, 7, GREAT):
            self.assertIsNone(clash((check,)))

    def test_just_one_pair_clashes(self):
        for bits in range(1, 9):
            luck = seeded(bits + 100)
            top = 2 ** bits
            for _ in range(20):
                # Checks of one bit of their own each clash nowhere; then two are made to.
                low, high = sorted((luck.randrange(top), luck.randrange(top)))
                checks = [1 << data for data in range(top)]
                self.assertIsNone(clash(tuple(checks)))
                checks[high] |= checks[low]
                pair = clash(tuple(checks))
                self.assertEqual(pair, (low, high) if low & high == low and low != high else None)

    def test_great_checks(self):
        self.assert_clash((GREAT, GREAT))
        self.assertIsNone(clash((GREAT + 1, GREAT)) if GREAT % 2 == 0 else None)
        self.assertIsNone(clash((1 << 13000, 1 << 12999)))

    def test_equal_checks_of_numbers_not_within_one_another(self):
        self.assertIsNone(clash((4, 2, 2, 1)))
        self.assertIsNone(clash((2, 1, 1, 0)))


if __name__ == "__main__":
    unittest.main()
