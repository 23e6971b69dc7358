"""Shelves beside a second one that follows the document's sentences: the very same images, word for word."""

import unittest

from flashtrees.chip import Chip, blank_image
from flashtrees.errors import PowerCut, Refused
from flashtrees.notes import told_of
from flashtrees.pages import WIDTH, told_by
from flashtrees.reading import greatest_node, listed, table_of, told_by_table
from flashtrees.shelf import Shelf
from flashtrees.turning import notes_for, tree_told
from tests.images import head, orderly_image, some_page_of, with_page
from tests.shelves import ShelfByHand, opens_by_hand
from tests.stories import small_deed, some_luck
from tests.support import refusal_of, seeded


def some_notes(luck, image):
    """The notes of some deed that is not refused."""
    table = told_by_table(table_of(image))
    deed = small_deed(luck, tree_told(table))
    try:
        return notes_for(table, greatest_node(image) + 1, deed)
    except Refused:
        return ()


def rough_image(luck):
    """An orderly image in which heads tell bad blocks, and blocks that are not listed have pages of all kinds."""
    image = orderly_image(luck)
    many = len(image)
    for block, order in listed(image):
        if luck.random() < 0.3:
            _, _, start, _, erasures = told_of(many, told_by(image[block][2][0]))
            bads = tuple([each for each in range(many) if luck.random() < 0.2])
            image = with_page(image, block, 0, head(many, order, start, bads, erasures))
    blocks = [block for block in range(len(image)) if block not in dict(listed(image))]
    for block in blocks:
        for page in range(len(image[0][2])):
            if luck.random() < 0.2:
                word = luck.choice((some_page_of(luck, len(image)), luck.getrandbits(WIDTH), 5))
                image = with_page(image, block, page, word)
    return image


class BesideTest(unittest.TestCase):
    def setUp(self):
        self.met = {}

    def count(self, what):
        self.met[what] = self.met.get(what, 0) + 1

    def assert_alike(self, shelf, hand):
        reading = hand.reading()
        if not hand.chip.is_cut():
            told = (shelf.space(), shelf.free(), shelf.reserve(), shelf.bads, shelf.room, shelf.live(), shelf.table())
            self.assertEqual(told, (hand.space(), len(hand.free()), hand.reserve(), tuple(sorted(hand.bads)),
                                    hand.room(),
                                    len(hand.live()), tuple(told_by_table(reading.table))))

    def run_beside(self, luck, image, spare, told, most):
        """The same deeds on two chips with the same luck; what is left."""
        one, two = Chip(image, told), Chip(image, told)
        shelf, hand = Shelf(one, spare), ShelfByHand(two, spare)
        self.assert_alike(shelf, hand)
        for _ in range(most):
            notes = some_notes(luck, one.image())
            if not notes or shelf.live() + len(notes) > shelf.room:
                continue
            said, wanted = refusal_of(shelf.do, notes), refusal_of(hand.do, notes)
            self.assertEqual(said, wanted)
            self.assertEqual((one.image(), one.operations()), (two.image(), two.operations()))
            self.count("done" if said is None else said[0].__name__)
            if said is not None and said[0] is PowerCut:
                break
            self.assert_alike(shelf, hand)
        return one.image()

    def test_stories(self):
        for seed in range(40):
            luck = seeded(seed)
            many, size = luck.choice((5, 6, 7)), luck.choice((5, 6, 8))
            spare = luck.randint(0, min(3, many - 4))
            image = blank_image(many, size)
            for _ in range(4):
                told = some_luck(luck, 60, luck.randrange(3))
                image = self.run_beside(luck, image, spare, told, 25)
        self.assertGreater(self.met["done"], 400)
        self.assertGreater(self.met["PowerCut"], 15)
        self.assertGreater(self.met["WornOut"], 50)

    def test_images_of_others(self):
        luck = seeded(99)
        tried = 0
        while tried < 150:
            image = luck.choice((orderly_image, rough_image))(luck)
            if opens_by_hand(image):
                tried += 1
                spare = luck.randint(0, min(3, len(image) - 4))
                self.run_beside(luck, image, spare, some_luck(luck, 40, luck.randrange(3)), 12)
        self.assertGreater(self.met["done"], 400)
        self.assertGreater(self.met["WornOut"], 50)


if __name__ == "__main__":
    unittest.main()
