"""Cuts and failures again and again: [A5] and [A6] over chips."""

import unittest

from flashtrees.chip import Chip, blank_image
from flashtrees.errors import PowerCut
from flashtrees.pages import BLANK, WIDTH, erased, is_blank, programmed, state_of, told_by, word_of
from tests.support import seeded, some_mask, some_word


def some_luck(luck, many):
    """Outcomes most of which are done, the last one being a cut."""
    told = []
    for _ in range(luck.randrange(many)):
        mask = some_mask(luck, 5 * WIDTH)
        told.append(("fails", mask) if luck.random() < 0.03 else ("done",))
    return tuple(told) + (("cut", some_mask(luck, luck.choice((WIDTH, 5 * WIDTH)))),)


class OnePageTest(unittest.TestCase):
    def test_a_blank_page_programmed_with_a_whole_word(self):
        luck = seeded(1)
        for _ in range(1000):
            word, mask = some_word(luck), some_mask(luck)
            left = programmed(BLANK, word, mask)
            self.assertTrue(left == word or state_of(left) in ("blank", "half"))
        for mask, state in ((0, "whole"), (BLANK, "blank"), (1 << 521, "half")):
            self.assertEqual(state_of(programmed(BLANK, word_of((1, 2)), mask)), state)

    def test_a_whole_page_erased(self):
        luck = seeded(2)
        for _ in range(1000):
            word, mask = some_word(luck), some_mask(luck)
            left = erased(word, mask)
            self.assertTrue(left == word or state_of(left) in ("blank", "half"))
        for mask, state in ((0, "whole"), (BLANK, "blank"), (1 << 521, "half")):
            self.assertEqual(state_of(erased(word_of((1, 2)), mask)), state)

    def test_each_single_bit_left(self):
        word = word_of((1, 2, 65535, 0, 77))
        for k in range(WIDTH):
            for mask in (1 << k, BLANK - (1 << k)):
                for left in (programmed(BLANK, word, mask), erased(word, mask)):
                    self.assertTrue(left == word or state_of(left) in ("blank", "half"))


class StoryTest(unittest.TestCase):
    """Whole words are programmed on blank pages alone; blocks are erased; the power goes; all again."""

    def setUp(self):
        self.written = {}

    def one_step(self, chip, luck):
        block, page = luck.randrange(5), luck.randrange(5)
        if luck.random() < 0.1:
            chip.erase(block)
        elif is_blank(chip.read(block, page)):
            word = some_word(luck)
            if not chip.image()[block][0]:
                self.written[block, page] = word
            chip.program(block, page, word)

    def assert_each_page(self, image):
        for block, (_, _, pages) in enumerate(image):
            for index, page in enumerate(pages):
                if state_of(page) == "whole":
                    self.assertEqual(page, self.written[block, index])
                    self.assertIsNotNone(told_by(page))

    def test_each_page_is_blank_or_half_or_the_word_programmed_last(self):
        states = []
        for seed in range(25):
            luck, image, self.written = seeded(seed), blank_image(5, 5), {}
            for _ in range(25):
                chip = Chip(image, some_luck(luck, 30))
                while not chip.is_cut() and not all(block[0] for block in chip.image()):
                    try:
                        self.one_step(chip, luck)
                    except PowerCut:
                        pass
                    self.assert_each_page(chip.image())
                    if luck.random() < 0.01:
                        break
                image = chip.image()
                states += [state_of(page) for block in image for page in block[2]]
        self.assertTrue(all(states.count(state) > 300 for state in ("blank", "half", "whole")))


if __name__ == "__main__":
    unittest.main()
