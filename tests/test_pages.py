"""Pages and words: [A1], [A2], [A4], [A6] and [A8], as flashtrees/pages.py tells them."""

import unittest

from flashtrees.pages import (BLANK, WIDTH, erase_may_leave, erased, is_blank, is_page, is_within, program_may_leave,
                              programmed, state_of, told_by, word_of, zeros_in)
from tests.support import GREAT, NO_NUMBERS, seeded, some_mask, some_page, some_word

ENDS = (0, 65535)


def data_of(units):
    return sum([unit * 65536 ** (31 - index) for index, unit in enumerate(units)])


def zeros_by_hand(data):
    return len([k for k in range(512) if data // 2 ** k % 2 == 0])


def page_by_hand(units):
    """The whole page with these first units and zeros behind them."""
    data = data_of(tuple(units) + (0,) * (32 - len(units)))
    return data * 1024 + zeros_by_hand(data)


def tuples_of(many):
    """Tuples of MANY numbers, 0 and 65535 among them and at the ends."""
    luck = seeded(many)
    middle = tuple([luck.getrandbits(16) for _ in range(many)])
    yield from ((0,) * many, (65535,) * many, middle)
    for first in ENDS:
        for last in ENDS:
            if many > 1:
                yield (first,) + middle[1:-1] + (last,)


class PageTest(unittest.TestCase):
    def test_width_and_blank(self):
        self.assertEqual((WIDTH, BLANK), (522, 2 ** 522 - 1))

    def test_is_page(self):
        for page in (0, 1, 1023, 2 ** 521, BLANK - 1, BLANK):
            self.assertIs(is_page(page), True)
        for value in NO_NUMBERS + [-1, BLANK + 1, -BLANK, GREAT, -GREAT]:
            self.assertIs(is_page(value), False)

    def test_is_blank(self):
        self.assertIs(is_blank(BLANK), True)
        for page in (0, 1, BLANK - 1, BLANK // 2, BLANK - 2 ** 9):
            self.assertIs(is_blank(page), False)

    def test_zeros_are_counted_in_the_data_alone(self):
        for page, zeros in ((0, 512), (1023, 512), (1024, 511), (BLANK, 0), (BLANK - 1023, 0), (2 ** 521, 511)):
            self.assertEqual(zeros_in(page), zeros)
        luck = seeded(1)
        for _ in range(200):
            page = some_page(luck)
            self.assertEqual(zeros_in(page), zeros_by_hand(page // 1024))

    def test_is_within(self):
        for page in (0, 1, 512, BLANK - 1, BLANK):
            self.assertIs(is_within(page, page), True)
            self.assertIs(is_within(0, page), True)
            self.assertIs(is_within(page, BLANK), True)
        self.assertIs(is_within(1, 2), False)
        self.assertIs(is_within(BLANK, BLANK - 1), False)
        self.assertIs(is_within(2 ** 521, 2 ** 521 - 1), False)
        luck = seeded(2)
        for _ in range(300):
            page, other = some_page(luck), some_page(luck)
            by_hand = all(other >> k & 1 for k in range(WIDTH) if page >> k & 1)
            self.assertIs(is_within(page, other), by_hand)
            self.assertIs(is_within(page & other, other), True)


class StateTest(unittest.TestCase):
    def test_the_three_states(self):
        self.assertEqual(state_of(BLANK), "blank")
        for page in (0, 511, 513, 1023, BLANK - 1, BLANK - 1024, BLANK - 2 ** 521):
            self.assertEqual(state_of(page), "half")
        for page in (512, BLANK - 1023, 1024 + 511, 2 ** 521 + 511):
            self.assertEqual(state_of(page), "whole")

    def test_just_one_check_makes_data_whole(self):
        luck = seeded(3)
        for _ in range(8):
            data = some_page(luck) >> 10
            checks = [check for check in range(1024) if state_of(data * 1024 + check) == "whole"]
            self.assertEqual(checks, [zeros_by_hand(data)])

    def test_no_blank_page_is_whole(self):
        self.assertNotEqual(zeros_in(BLANK), BLANK % 1024)

    def test_no_whole_page_lies_within_another_one(self):
        luck = seeded(4)
        for _ in range(200):
            word = some_word(luck)
            less = (word >> 10) & luck.getrandbits(512)
            for data in (less, (word >> 10) | luck.getrandbits(512), (word >> 10) ^ (1 << luck.randrange(512))):
                other = data * 1024 + zeros_by_hand(data)
                self.assertEqual(state_of(other), "whole")
                self.assertIs(is_within(word, other), word == other)
                self.assertIs(is_within(other, word), word == other)


class WordTest(unittest.TestCase):
    def test_there_and_back(self):
        for many in range(32):
            for numbers in tuples_of(many):
                page = word_of(numbers)
                self.assertEqual(page, page_by_hand((many,) + numbers))
                self.assertEqual(state_of(page), "whole")
                back = told_by(page)
                self.assertEqual(back, numbers)
                self.assertIs(back.__class__, tuple)

    def test_a_bit_more_or_less_tells_nothing(self):
        for numbers in ((), (0,), (1, 2), (65535,) * 31, (0,) * 31):
            page = word_of(numbers)
            for k in range(WIDTH):
                self.assertEqual(state_of(page ^ (1 << k)), "half")
                self.assertIsNone(told_by(page ^ (1 << k)))

    def test_a_wrong_check_tells_nothing(self):
        page = word_of((7, 0, 65535))
        for check in range(1024):
            other = page // 1024 * 1024 + check
            self.assertEqual(told_by(other), (7, 0, 65535) if other == page else None)

    def test_units_behind_the_last_number_have_to_be_0(self):
        for many in range(31):
            for place in range(many + 1, 32):
                units = [many] + [5] * many + [0] * (31 - many)
                self.assertEqual(told_by(page_by_hand(units)), (5,) * many)
                units[place] = 1
                page = page_by_hand(units)
                self.assertEqual(state_of(page), "whole")
                self.assertIsNone(told_by(page))

    def test_a_first_unit_above_31_tells_nothing(self):
        for first in (32, 33, 255, 256, 65535):
            for behind in (0, 1, 65535):
                page = page_by_hand([first] + [behind] * 31)
                self.assertEqual(state_of(page), "whole")
                self.assertIsNone(told_by(page))

    def test_blank_and_half_pages_tell_nothing(self):
        for page in (BLANK, 0, 511, 1023, BLANK - 1):
            self.assertIsNone(told_by(page))

    def test_a_blank_page_but_for_its_check_tells_nothing(self):
        self.assertEqual(state_of(BLANK - 1023), "whole")
        self.assertIsNone(told_by(BLANK - 1023))


def bit(number, k):
    return number >> k & 1


class ProgramAndEraseTest(unittest.TestCase):
    def test_by_the_lowest_bits_of_masks(self):
        luck = seeded(5)
        for _ in range(300):
            old, word, mask = some_page(luck), some_page(luck), some_mask(luck)
            left, lifted = programmed(old, word, mask), erased(old, mask)
            self.assertTrue(is_page(left) and is_page(lifted))
            for k in range(WIDTH):
                self.assertEqual(bit(left, k), bit(old, k) and (bit(word, k) or bit(mask, k)))
                self.assertEqual(bit(lifted, k), bit(old, k) or bit(mask, k))

    def test_masks_beyond_the_width(self):
        for mask in (BLANK + 1, 2 ** 6264, GREAT << WIDTH):
            self.assertEqual(programmed(BLANK, 512, mask), 512)
            self.assertEqual(programmed(BLANK, 512, mask + 1), 513)
            self.assertEqual(erased(512, mask), 512)
            self.assertEqual(erased(512, mask + 1), 513)
            self.assertEqual(erased(0, mask + BLANK), BLANK)

    def test_ends(self):
        self.assertEqual(programmed(BLANK, 0, 0), 0)
        self.assertEqual(programmed(0, BLANK, BLANK), 0)
        self.assertEqual(programmed(513, 512, 0), 512)
        self.assertEqual(programmed(513, 512, BLANK), 513)
        self.assertEqual([erased(0, 0), erased(0, BLANK), erased(BLANK, 0)], [0, BLANK, BLANK])

    def test_what_may_be_left_is_what_some_mask_leaves(self):
        for shift in (0, 8, 519):
            pages = [number << shift for number in range(8)]
            for old in pages:
                lifted = [erased(old, mask) for mask in pages]
                for result in pages:
                    self.assertIs(erase_may_leave(old, result), result in lifted)
                for word in pages:
                    left = [programmed(old, word, mask) for mask in pages]
                    for result in pages:
                        self.assertIs(program_may_leave(old, word, result), result in left)

    def test_what_may_be_left_of_great_pages(self):
        luck = seeded(6)
        for _ in range(200):
            old, word, mask = some_page(luck), some_page(luck), some_mask(luck)
            left, lifted = programmed(old, word, mask), erased(old, mask)
            self.assertIs(program_may_leave(old, word, left), True)
            self.assertIs(erase_may_leave(old, lifted), True)
            flip = 1 << luck.randrange(WIDTH)
            self.assertIs(program_may_leave(old, word, left ^ flip), bool(old & flip) and not word & flip)
            self.assertIs(erase_may_leave(old, lifted ^ flip), not old & flip)

    def test_what_may_not_be_left(self):
        self.assertIs(program_may_leave(512, 512, 513), False)
        self.assertIs(program_may_leave(513, 513, 512), False)
        self.assertIs(program_may_leave(0, BLANK, BLANK), False)
        self.assertIs(erase_may_leave(BLANK, BLANK - 1), False)
        self.assertIs(erase_may_leave(1, 0), False)


class NoCutFeignsTest(unittest.TestCase):
    def test_a_half_page_programmed_done_is_the_word_or_not_whole(self):
        luck = seeded(7)
        for _ in range(400):
            word = some_word(luck)
            half = programmed(BLANK, some_word(luck), some_mask(luck))
            left = programmed(half, word, 0)
            self.assertTrue(left == word or state_of(left) != "whole")

    def test_a_half_page_programmed_cut_may_be_a_word_that_nobody_wrote(self):
        first, second = word_of((1, 4)), word_of((2, 8))
        third = next(page for page in map(word_of, [(a, b) for a in range(4) for b in range(16)])
                     if is_within(first & second, page) and page not in (first, second))
        half = programmed(BLANK, first, third)
        self.assertEqual((half, state_of(half)), (first | third, "half"))
        self.assertIs(program_may_leave(half, second, third), True)
        self.assertEqual(programmed(half, second, third), third)

    def test_an_erase_of_pages_with_high_checks_tells_nothing_new(self):
        luck = seeded(8)
        for _ in range(400):
            old = programmed(BLANK, some_word(luck), some_mask(luck))
            self.assertGreaterEqual(old % 1024, zeros_in(old))
            self.assertIn(told_by(erased(old, some_mask(luck))), (told_by(old), None))

    def test_an_erase_of_a_page_with_a_low_check_may_make_it_whole(self):
        word = word_of((3,))
        less = word - (1 << 506)
        self.assertLess(less % 1024, zeros_in(less))
        self.assertEqual(told_by(erased(less, 1 << 506)), (3,))


if __name__ == "__main__":
    unittest.main()
