"""What an image shows: [E8] and [E9], as flashtrees/examiner.py tells it."""

import unittest

from flashtrees.chip import Chip, blank_image
from flashtrees.errors import InvalidNumber, PowerCut
from flashtrees.examiner import findings, may_erase
from flashtrees.pages import BLANK, WIDTH, erase_may_leave, state_of
from flashtrees.reading import is_orderly, listed, start_of, table_of
from flashtrees.store import opened_tree
from tests.images import (A, B, HALF, ONE, PIECE, ByHand, drop, head, image_of, note, orderly_image, some_page_of,
                          wild_image,
                          with_page)
from tests.shelves import may_erase_by_hand
from tests.stories import cut_mask
from tests.support import FlashCase, seeded, wrong_numbers
from tests.test_shelf_model import rough_image

WORDS = ("same order", "ended", "turned back", "elder behind", "unlike")
# A half page the check of which is above the number of its data's bits that are 0, and one with a check below it.
HIGH, LOW = note(1, 2, A, 1) | 1 << (WIDTH - 1), 5
FILE = ("file", 3)


def findings_by_hand(image):
    reading, found = ByHand(image), []
    for at, (block, order) in enumerate(reading.listed):
        if any(order == other for _, other in reading.listed[:at]):
            found.append((at, 0, 0, ("same order", block, 0)))
    places = [block for block, _ in reading.listed]
    for at, (block, page, deed, flag, _, _) in enumerate(reading.notes):
        ahead = [one for one in reading.notes[:at] if one[3] != 2]
        if flag != 2 and [one for one in ahead if one[2] == deed and one[3] == 1]:
            found.append((places.index(block), page, 1, ("ended", block, page)))
        if flag != 2 and [one for one in ahead if one[2] > deed]:
            found.append((places.index(block), page, 2, ("turned back", block, page)))
    for at, (block, page, deed, _, key, value) in enumerate(reading.counting):
        ahead = [one for one in reading.counting[:at] if one[4] == key]
        if [one for one in ahead if one[2] > deed]:
            found.append((places.index(block), page, 3, ("elder behind", block, page)))
        if [one for one in ahead if one[2] == deed and one[5] != value]:
            found.append((places.index(block), page, 4, ("unlike", block, page)))
    return tuple([each[3] for each in sorted(found)])


class FindingsTest(unittest.TestCase):
    def test_none(self):
        self.assertEqual(findings(blank_image(5, 5)), ())
        self.assertEqual(findings(image_of(5, 5, (head(5, 2), note(1, 1, A, 1)), (head(5, 1), note(1, 2, B, 1)))), ())

    def test_each_word(self):
        one, two = note(1, 1, A, 1), note(2, 1, A, 2)
        rows = {
            (one, one): (("ended", 0, 2),), (two, note(1, 0, A, 1)): (("turned back", 0, 2),),
            (two, note(1, 2, A, 1)): (("elder behind", 0, 2),), (one, note(1, 2, A, 2)): (("unlike", 0, 2),),
            (two, one): (("turned back", 0, 2), ("elder behind", 0, 2)),
            (one, note(1, 1, A, 2)): (("ended", 0, 2), ("unlike", 0, 2)),
            (one, two, note(1, 1, A, 2)): (("ended", 0, 3), ("turned back", 0, 3), ("elder behind", 0, 3),
                                           ("unlike", 0, 3)),
            (one, note(1, 2, A, None)): (("unlike", 0, 2),),
            (one, note(1, 2, A, 2), note(1, 2, A, 1)): (("unlike", 0, 2), ("unlike", 0, 3)),
            (note(2, 2, A, 2), note(1, 2, A, 1), note(1, 2, A, 1)): (("elder behind", 0, 2), ("elder behind", 0, 3)),
            # What is told by notes that do not count, and by copies, is not asked for.
            (note(1, 0, A, 1), note(1, 2, A, 2)): (), (note(2, 2, A, 2), note(1, 1, B, 1)): (),
            (note(2, 0, A, 1), note(1, 2, A, 1)): (), (one, note(1, 2, A, 1)): (),
            (note(1, 0, A, 1), note(1, 0, A, 2)): (),
            # The notes of one deed count together, once its end note is there.
            (note(1, 0, A, 1), note(1, 1, A, 2)): (("unlike", 0, 2),)}
        for row, found in rows.items():
            image = image_of(5, 5, (head(5, 1),) + row)
            self.assertEqual(findings(image), found)
            self.assertIs(is_orderly(image), found == ())

    def test_same_orders(self):
        rows = ((head(6, 4),), (head(6, 2), note(3, 1, B, 1)), (HIGH, head(6, 4), note(1, 1, B, 1)), (head(6, 2),),
                (head(6, 4),))
        self.assertEqual(findings(image_of(6, 5, *rows)), (
            ("same order", 3, 0), ("same order", 2, 0), ("turned back", 2, 2), ("elder behind", 2, 2),
            ("same order", 4, 0)))

    def test_in_the_order_of_listed_blocks(self):
        one = note(1, 1, A, 1)
        rows = ((head(5, 3), one, one), (head(5, 1), one, one), (head(5, 2), one))
        self.assertEqual(findings(image_of(5, 5, *rows)), (
            ("ended", 1, 2), ("ended", 2, 1), ("ended", 0, 1), ("ended", 0, 2)))

    def test_what_is_not_listed_is_not_asked_for(self):
        row = (note(2, 1, A, 1), note(2, 1, A, 2), note(1, 1, A, 3))
        self.assertEqual(findings(image_of(5, 5, (head(5, 1),) + row, (head(5, 2, 2),), row)), ())

    def test_images_by_hand(self):
        luck, met = seeded(51), []
        for _ in range(1500):
            image = luck.choice((wild_image, wild_image, orderly_image, rough_image))(luck)
            found = findings(image)
            self.assertEqual(found, findings_by_hand(image))
            self.assertIs(is_orderly(image), found == ())
            met += [word for word, _, _ in found] or ["none"]
        for word in WORDS + ("none",):
            self.assertGreater(met.count(word), 30, word)


class EraseTest(FlashCase):
    def test_blank_and_half_blocks(self):
        for row, right in (((), True), ((HIGH,) * 5, True), ((LOW,), False), ((HALF,), False),
                           ((HIGH, HIGH, HIGH, HIGH, LOW), False),
                           ((BLANK - 1,), True), ((BLANK - 1024,), True), ((0,), False), ((512,), True)):
            for block in range(5):
                image = image_of(5, 5, *([()] * block + [row]))
                self.assertIs(may_erase(image, block), right, row)
                self.assertIs(may_erase(image, (block + 1) % 5), True)

    def test_the_start_is_told_without_it(self):
        old = (head(5, 1), note(1, 1, A, 1))
        for row, others, right in (
                ((drop(4),), (), False), ((drop(4),), (drop(4),), True), ((drop(4),), (HIGH, head(5, 4, 4)), True),
                ((drop(3),), (drop(4),), True), ((drop(5),), (drop(4),), False), ((drop(1),), (), True),
                ((head(5, 3, 3), drop(4)), (drop(4),), True), ((head(5, 4, 4),), (), False),
                ((head(5, 1, 1),), (), True),
                ((head(5, 4, 4),), (drop(4),), True), ((head(5, 3, 3), note(1, 1, B, 1)), (drop(4),), True)):
            image = image_of(5, 5, row, others, old)
            self.assertIs(may_erase(image, 0), right, (row, others))

    def test_heads(self):
        start = (drop(9),)
        for row, right in (((head(5, 1),), True), ((HIGH, head(5, 1)), True), ((head(5, 1), head(5, 2)), False),
                           ((512, head(5, 1)), False), ((note(1, 1, A, 1), head(5, 1)), False),
                           ((512, note(1, 1, A, 1)), True),
                           ((head(6, 1),), True), ((head(5, 1), head(6, 2)), True), ((drop(9), head(5, 1)), False)):
            self.assertIs(may_erase(image_of(5, 6, row, start), 0), right, row)

    def test_listed_blocks(self):
        copy, origin = note(1, 2, A, 1), note(1, 1, A, 1)
        other = (head(5, 1), origin, note(3, 0, B, 1), note(4, 2, B, 2))
        for row, right in (
                ((), True), ((copy,), True), ((copy, copy), True), ((origin,), False),
                ((copy, note(2, 1, B, 1)), False),
                ((note(5, 0, B, 1),), True), ((copy, drop(1)), False), ((drop(1),), False),
                ((note(2, 2, A, 1),), False),
                ((note(1, 2, A, 2),), False), ((note(1, 2, B, 1),), False), ((note(3, 2, B, 1),), False),
                ((note(4, 2, B, 2), copy), True), ((copy, HIGH), True), ((copy, LOW), False),
                ((note(6, 2, ONE, FILE),), False)):
            image = image_of(5, 6, other, (head(5, 2),) + row)
            self.assertEqual(len(listed(image)), 2)
            self.assertIs(may_erase(image, 1), right, row)
        # Copies within one block do not tell one another.
        self.assertIs(may_erase(image_of(5, 6, (head(5, 1), copy, copy)), 0), False)
        self.assertIs(may_erase(image_of(5, 6, (head(5, 1), copy), (head(5, 2), copy)), 0), True)
        # A note that does not count tells nothing, and no block that is not listed does.
        self.assertIs(may_erase(image_of(5, 6, (head(5, 1), note(1, 0, A, 1)), (head(5, 2), copy)), 1), False)
        self.assertIs(may_erase(image_of(5, 6, (origin,), (head(5, 2), copy)), 1), False)

    def test_bad_blocks_are_asked_as_others(self):
        image = image_of(5, 5, (LOW,))
        bad = tuple([(True, 7, pages) for _, _, pages in image])
        self.assertEqual([may_erase(bad, block) for block in range(5)], [False] + [True] * 4)

    def test_indexes(self):
        for value in wrong_numbers(0, 6):
            self.assert_refused(InvalidNumber(value), may_erase, blank_image(7, 5), value)

    def test_images_by_hand(self):
        luck, met = seeded(52), []
        for _ in range(350):
            image = luck.choice((wild_image, orderly_image, rough_image))(luck)
            block = luck.randrange(len(image))
            if luck.random() < 0.3:
                image = with_page(image, block, luck.randrange(len(image[0][2])), some_page_of(luck, len(image)))
            for each in range(len(image)):
                self.assertIs(may_erase(image, each), may_erase_by_hand(image, each))
                met.append((may_erase(image, each), each in dict(listed(image))))
        for kind in ((True, True), (True, False), (False, True), (False, False)):
            self.assertGreater(met.count(kind), 40, kind)

    def left(self, image, block, mask, word):
        chip = Chip(image, ((word, mask),) if word != "done" else ())
        try:
            chip.erase(block)
        except PowerCut:
            pass
        return chip.image()

    def test_whatever_mask_an_erase_has(self):
        """What may be erased leaves the START, the table and the tree."""
        luck, tried = seeded(53), 0
        while tried < 1500:
            image = luck.choice((orderly_image, rough_image, wild_image))(luck)
            image = tuple([(False, erasures, pages) for _, erasures, pages in image])
            bits = WIDTH * len(image[0][2])
            for block in range(len(image)):
                if may_erase(image, block):
                    tried += 1
                    for word in ("cut", "fails", "done"):
                        left = self.left(image, block, cut_mask(luck, bits), word)
                        self.assertEqual(start_of(left), start_of(image))
                        if is_orderly(image):
                            self.assertIs(is_orderly(left), True)
                            self.assertEqual((table_of(left), opened_tree(left)), (table_of(image), opened_tree(image)))

    def test_an_erase_makes_half_pages_whole_if_their_checks_are_low(self):
        luck = seeded(54)
        for _ in range(300):
            page = luck.getrandbits(WIDTH)
            zeros, check = 512 - bin(page // 1024).count("1"), page % 1024
            whole = page
            for bit in luck.sample(range(10, WIDTH), 512):
                if 512 - bin(whole // 1024).count("1") > check:
                    whole |= 1 << bit
            self.assertTrue(erase_may_leave(page, whole))
            if zeros > check:
                self.assertEqual(state_of(whole), "whole")
                self.assertIs(may_erase(image_of(5, 5, (page,)), 0), False)
            elif zeros < check:
                self.assertIs(may_erase(image_of(5, 5, (page,)), 0), True)

    def test_a_mask_shows_what_may_not_be_erased(self):
        """A giver alone in its block, a drop that alone tells the START, a second head, a low check."""
        giver = image_of(5, 5, (head(5, 1), note(1, 0, A, 1), note(1, 0, ONE, FILE), note(1, 1, PIECE, (1, 2))))
        dropped = image_of(5, 5, (head(5, 1), note(1, 1, B, None)), (HIGH, drop(2)), (head(5, 1), note(1, 2, A, 1)))
        second = image_of(5, 5, (head(5, 1), note(1, 1, B, None)), (512, head(5, 7), note(1, 2, A, 1)))
        low = with_page(image_of(5, 5, (head(5, 1),)), 0, 1, note(1, 2, A, 1) & ~(1 << 511 | 1 << 510))
        for image, block, mask in ((giver, 0, BLANK << WIDTH), (dropped, 1, BLANK << WIDTH), (second, 1, BLANK),
                                   (low, 0, (1 << 511 | 1 << 510) << WIDTH)):
            self.assertIs(may_erase(image, block), False)
            self.assertNotEqual(opened_tree(self.left(image, block, mask, "cut")), opened_tree(image))


if __name__ == "__main__":
    unittest.main()
