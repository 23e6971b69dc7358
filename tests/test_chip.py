"""The chip: [A2] and [A3], as flashtrees/chip.py tells it."""

import unittest

from flashtrees.chip import Chip, blank_image, is_image, is_luck
from flashtrees.errors import PowerCut
from flashtrees.pages import BLANK, WIDTH, word_of
from tests.support import GREAT, NO_NUMBERS, NO_TUPLES, nested, seeded, some_mask, some_page

DONE = ("done",)
FULL = (BLANK,) * 5


def image_of(*blocks):
    """An image of five pages a block, blank ones behind those that are told."""
    return blocks + ((False, 0, FULL),) * (5 - len(blocks))


def block_of(pages, is_bad=False, erasures=0, many=5):
    return (is_bad, erasures, tuple(pages) + (BLANK,) * (many - len(pages)))


class ImageTest(unittest.TestCase):
    def test_blank_images(self):
        for blocks in range(5, 13):
            for pages in range(5, 13):
                image = blank_image(blocks, pages)
                self.assertEqual(image, ((False, 0, (BLANK,) * pages),) * blocks)
                self.assertIs(is_image(image), True)
                self.assertEqual(Chip(image, ()).size(), (blocks, pages))
        self.assertIs(image[0][0], False)

    def test_images(self):
        for block in (block_of(()), block_of((0, 1, BLANK), True, 7), block_of((5,) * 5, False, GREAT)):
            self.assertIs(is_image(image_of(block)), True)

    def test_no_images(self):
        good = block_of(())
        for bad in NO_TUPLES + [(), (False, 0), (False, 0, FULL, 0), (False, 0, list(FULL)), (False, 0, FULL[1:]),
                                (False, 0, FULL + (BLANK,)), (False, 0, (BLANK,) * 13), nested(39)]:
            self.assertIs(is_image((bad,) + (good,) * 4), False)
            self.assertIs(is_image((good,) * 4 + (bad,)), False)
        for value in NO_NUMBERS + [-1, -GREAT]:
            self.assertIs(is_image(image_of((False, value, FULL))), False)
            self.assertIs(is_image(image_of(block_of((value,)))), False)
        for value in [BLANK + 1, GREAT]:
            self.assertIs(is_image(image_of(block_of((1, value)))), False)
        for value in [0, 1, None, "", (), object()]:
            self.assertIs(is_image(image_of((value, 0, FULL))), False)

    def test_the_numbers_of_blocks_and_pages(self):
        for many in (0, 1, 4, 13, 100):
            self.assertIs(is_image((block_of(()),) * many), False)
            self.assertIs(is_image((block_of((), many=many),) * 5), False)
        for many in range(5, 13):
            self.assertIs(is_image((block_of(()),) * many), True)
            self.assertIs(is_image((block_of((), many=many),) * 5), True)
        for value in NO_TUPLES + [list(blank_image(5, 5)), nested(40)]:
            self.assertIs(is_image(value), False)


class LuckTest(unittest.TestCase):
    def test_lucks(self):
        for luck in ((), (DONE,), (("cut", 0),), (("fails", GREAT),), (DONE, ("cut", 1), DONE, ("fails", BLANK + 1))):
            self.assertIs(is_luck(luck), True)
        self.assertIs(is_luck((DONE,) * 1000), True)

    def test_no_lucks(self):
        bad = NO_NUMBERS + [("done", 0), ("done", None), ("cut",), ("fails",), ("cut", 1, 2), ("cut", -1), ["done"],
                            ("fails", -1), ["cut", 1], ("Done",), ("fail", 1), (b"done",), (b"cut", 1), (None,)]
        bad += [("cut", value) for value in NO_NUMBERS] + [("fails", value) for value in NO_NUMBERS]
        bad += [(value, 1) for value in NO_NUMBERS] + [(value,) for value in NO_NUMBERS]
        for outcome in bad:
            self.assertIs(is_luck((outcome,)), False, outcome)
            self.assertIs(is_luck((DONE, outcome)), False, outcome)
        for value in NO_TUPLES + [[DONE], DONE, ("cut", 1)]:
            self.assertIs(is_luck(value), False, value)


class DoneTest(unittest.TestCase):
    def test_program_and_erase(self):
        chip = Chip(image_of(block_of((513,), erasures=4)), (DONE, DONE))
        self.assertIs(chip.program(0, 0, 1), True)
        self.assertIs(chip.program(4, 4, 7), True)
        self.assertEqual(chip.image(), image_of(block_of((1,), erasures=4), *image_of()[1:4],
                                                block_of((BLANK,) * 4 + (7,))))
        self.assertIs(chip.erase(0), True)
        self.assertEqual(chip.image()[0], block_of((), erasures=5))
        self.assertEqual((chip.operations(), chip.is_cut()), (3, False))

    def test_behind_the_last_outcome_all_are_done(self):
        chip = Chip(blank_image(5, 5), ())
        for index in range(30):
            self.assertIs(chip.program(index % 5, index % 4, 512), True)
            self.assertIs(chip.erase(index % 5), True)
        self.assertEqual(chip.operations(), 60)
        self.assertEqual(chip.image(), (block_of((), erasures=6),) * 5)

    def test_what_changes_no_bit_uses_an_outcome_too(self):
        chip = Chip(blank_image(5, 5), (DONE, DONE, ("cut", 0)))
        self.assertIs(chip.program(0, 0, BLANK), True)
        self.assertIs(chip.erase(0), True)
        self.assertEqual((chip.image()[0], chip.operations()), (block_of((), erasures=1), 2))
        with self.assertRaises(PowerCut):
            chip.program(0, 0, BLANK)

    def test_asking_uses_no_outcome(self):
        chip = Chip(blank_image(5, 5), (("cut", 0),))
        chip.read(0, 0), chip.image(), chip.size(), chip.operations(), chip.is_cut()
        self.assertEqual((chip.operations(), chip.is_cut()), (0, False))

    def test_arguments_by_name(self):
        chip = Chip(luck=(), image=blank_image(pages=6, blocks=5))
        self.assertIs(chip.program(word=512, page=5, block=4), True)
        self.assertEqual(chip.read(page=5, block=4), 512)
        self.assertIs(chip.erase(block=4), True)

    def test_kinds_of_what_is_told(self):
        chip = Chip(blank_image(5, 7), ())
        chip.program(0, 0, 512)
        self.assertIs(chip.image().__class__, tuple)
        self.assertIs(chip.size().__class__, tuple)
        self.assertIs(is_image(chip.image()), True)
        self.assertEqual(chip.size(), (5, 7))


class CutTest(unittest.TestCase):
    def assert_gone(self, chip):
        left, begun = chip.image(), chip.operations()
        for call in (lambda: chip.program(1, 1, 512), lambda: chip.erase(1), lambda: chip.read(1, 1),
                     lambda: chip.erase(0), lambda: chip.read(0, 0)):
            with self.assertRaises(PowerCut):
                call()
        self.assertEqual((chip.image(), chip.operations(), chip.is_cut()), (left, begun, True))

    def test_a_cut_program(self):
        for mask, page in ((0, 512), (1, 513), (3, 513), (BLANK, 1537), (BLANK + 1, 512), (1 << 10, 1536)):
            chip = Chip(image_of(block_of((1537,), erasures=3)), (("cut", mask), DONE))
            with self.assertRaises(PowerCut):
                chip.program(0, 0, 512)
            self.assertEqual(chip.image(), image_of(block_of((page,), erasures=3)))
            self.assertEqual(chip.operations(), 1)
            self.assert_gone(chip)

    def test_a_cut_erase(self):
        old = (512, 513, 0, 1, 3)
        masks = ((0, old), (1 << 10, (1536,) + old[1:]), ((1 << WIDTH) - 1, (BLANK,) + old[1:]),
                 (2 << WIDTH, (512, 515, 0, 1, 3)), (BLANK << 4 * WIDTH, old[:4] + (BLANK,)),
                 (1 << 5 * WIDTH, old), ((1 << 5 * WIDTH) - 1, FULL), (1 << WIDTH - 1, (512 + (1 << 521),) + old[1:]))
        for mask, left in masks:
            chip = Chip(image_of(block_of(old, erasures=3)), (DONE, ("cut", mask), DONE))
            chip.program(1, 0, 512)
            with self.assertRaises(PowerCut):
                chip.erase(0)
            self.assertEqual(chip.image(), image_of(block_of(left, erasures=4), block_of((512,))))
            self.assertEqual(chip.operations(), 2)
            self.assert_gone(chip)

    def test_a_cut_erase_may_leave_the_last_pages_or_the_first_ones(self):
        old = (word_of((1,)), word_of((2,)), word_of((3,)), word_of((4,)), word_of((5,)))
        for mask, left in ((((1 << 3 * WIDTH) - 1) << 2 * WIDTH, old[:2] + FULL[2:]),
                           ((1 << 2 * WIDTH) - 1, FULL[:2] + old[2:])):
            chip = Chip(image_of(block_of(old)), (("cut", mask),))
            with self.assertRaises(PowerCut):
                chip.erase(0)
            self.assertEqual(chip.image()[0], (False, 1, left))

    def test_the_image_goes_on_in_another_chip(self):
        chip = Chip(blank_image(5, 5), (("cut", 1),))
        with self.assertRaises(PowerCut):
            chip.program(2, 3, 512)
        again = Chip(chip.image(), ())
        self.assertEqual((again.read(2, 3), again.is_cut(), again.operations()), (513, False, 0))
        self.assertIs(again.program(2, 3, 512), True)
        self.assertEqual((again.read(2, 3), chip.image()[2][2][3]), (512, 513))

    def test_a_bad_block_behind_a_cut(self):
        chip = Chip(image_of(block_of((), True)), (("cut", 0),))
        self.assertIs(chip.erase(0), False)
        with self.assertRaises(PowerCut):
            chip.erase(1)
        self.assert_gone(chip)


class FailureTest(unittest.TestCase):
    def assert_bad(self, chip, block):
        left, begun = chip.image(), chip.operations()
        self.assertIs(chip.program(block, 0, 0), False)
        self.assertIs(chip.erase(block), False)
        self.assertEqual((chip.image(), chip.operations(), chip.is_cut()), (left, begun, False))
        self.assertEqual([chip.read(block, page) for page in range(5)], list(left[block][2]))
        self.assertIs(left[block][0], True)

    def test_a_failed_program(self):
        for mask, page in ((0, 512), (1, 513), (BLANK, 1537), (BLANK + 1, 512)):
            chip = Chip(image_of(block_of((1537,), erasures=3)), (("fails", mask), ("cut", 0)))
            self.assertIs(chip.program(0, 0, 512), False)
            self.assertEqual(chip.image(), image_of(block_of((page,), True, 3)))
            self.assertEqual(chip.operations(), 1)
            self.assert_bad(chip, 0)
            with self.assertRaises(PowerCut):
                chip.erase(1)

    def test_a_failed_erase(self):
        old = (512, 513, 0, 1, 3)
        for mask, left in ((0, old), (2 << WIDTH, (512, 515, 0, 1, 3)), ((1 << 5 * WIDTH) - 1, FULL)):
            chip = Chip(image_of(block_of(()), block_of(old, erasures=3)), (("fails", mask), DONE))
            self.assertIs(chip.erase(1), False)
            self.assertEqual(chip.image(), image_of(block_of(()), block_of(left, True, 4)))
            self.assertEqual(chip.operations(), 1)
            self.assert_bad(chip, 1)

    def test_a_block_that_was_bad_at_first(self):
        chip = Chip(image_of(block_of((512,), True, 9)), (("cut", 0),))
        self.assert_bad(chip, 0)
        self.assertEqual(chip.image(), image_of(block_of((512,), True, 9)))

    def test_other_blocks_go_on(self):
        chip = Chip(blank_image(5, 5), (("fails", 0), ("fails", BLANK), DONE))
        self.assertEqual([chip.erase(0), chip.erase(0), chip.erase(1), chip.program(1, 0, 1), chip.erase(2)],
                         [False, False, False, False, True])
        self.assertEqual([block[:2] for block in chip.image()],
                         [(True, 1), (True, 1), (False, 1), (False, 0), (False, 0)])
        self.assertEqual(chip.operations(), 3)


class TwoChipsTest(unittest.TestCase):
    def test_two_chips_of_one_image_do_not_change_one_another(self):
        image, luck = blank_image(5, 5), (DONE, ("fails", 1), ("cut", 2))
        one, two = Chip(image, luck), Chip(image, luck)
        one.program(0, 0, 512)
        one.erase(1)
        self.assertEqual((two.image(), two.operations()), (image, 0))
        with self.assertRaises(PowerCut):
            one.erase(2)
        self.assertEqual((two.image(), two.is_cut(), two.read(0, 0)), (image, False, BLANK))
        self.assertEqual([two.program(0, 0, 512), two.erase(1)], [True, False])
        with self.assertRaises(PowerCut):
            two.erase(2)
        self.assertEqual(two.image(), one.image())

    def test_an_image_that_was_told_stays(self):
        chip = Chip(blank_image(5, 5), ())
        told = chip.image()
        chip.program(0, 0, 512)
        chip.erase(1)
        self.assertEqual(told, blank_image(5, 5))


class ByHandTest(unittest.TestCase):
    """Many rows of operations beside a model that settles each bit alone."""

    def left_by(self, outcome, old, word):
        """The pages of the model behind a program (of the one page) or an erase (the word is None)."""
        mask = outcome[1] if len(outcome) == 2 else (0 if word is not None else -1)
        left = []
        for index, page in enumerate(old):
            bits = 0
            for k in range(WIDTH):
                is_left = mask >> WIDTH * index + k & 1
                is_one = (page >> k & 1) and (word >> k & 1 or is_left) if word is not None else page >> k & 1 or is_left
                bits += bool(is_one) << k
            left.append(bits)
        return tuple(left)

    def test_rows_of_operations(self):
        for seed in range(40):
            luck = seeded(seed)
            image = tuple([(luck.random() < 0.2, luck.randrange(9), tuple([some_page(luck) for _ in range(5)]))
                           for _ in range(5)])
            told = tuple([luck.choice((DONE, DONE, ("fails", some_mask(luck, 5 * WIDTH)))) for _ in range(8)])
            self.run_beside(luck, image, told + (("cut", some_mask(luck, 5 * WIDTH)),))

    def run_beside(self, luck, image, told):
        chip, model, begun = Chip(image, told), list(image), 0
        while not chip.is_cut() and begun < len(told):
            block, page, word = luck.randrange(5), luck.randrange(5), luck.choice((None, some_page(luck)))
            if all(is_bad for is_bad, _, _ in model):
                break
            try:
                answer = chip.erase(block) if word is None else chip.program(block, page, word)
            except PowerCut:
                answer = None
            is_bad, erasures, pages = model[block]
            outcome = told[begun]
            if is_bad:
                self.assertIs(answer, False)
            else:
                begun += 1
                if word is None:
                    left, erasures = self.left_by(outcome, pages, None), erasures + 1
                else:
                    left = pages[:page] + self.left_by(outcome, pages[page:page + 1], word) + pages[page + 1:]
                model[block] = (outcome[0] == "fails", erasures, left)
                self.assertIs(answer, {"done": True, "fails": False, "cut": None}[outcome[0]])
            self.assertEqual((chip.image(), chip.operations()), (tuple(model), begun))


if __name__ == "__main__":
    unittest.main()
