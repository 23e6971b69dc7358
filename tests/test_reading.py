"""What lies on the chip, and what it means: [B3] to [B7], as flashtrees/reading.py tells it."""

import unittest

from flashtrees.chip import Chip, blank_image
from flashtrees.pages import BLANK, WIDTH, state_of, word_of
from flashtrees.reading import (counting, greatest_deed, greatest_node, is_orderly, kinds_in, known_bads,
                                known_erasures, listed, next_page, notes_in, start_of, table_of, told_by_table)
from tests.images import (A, B, HALF, IDLES, KEYS, ONE, PIECE, TWO, VALUES, ByHand, drop, head, image_of, note,
                          orderly_image, some_note_page, wild_image, with_page)
from tests.support import seeded, some_mask
from tests.values import GREATEST, PAIRS

READINGS = (kinds_in, start_of, listed, notes_in, counting, table_of, greatest_deed, greatest_node, known_erasures,
            known_bads, is_orderly)


def small(*rows):
    """An image of five blocks of six pages, each row beginning with a head of the next order."""
    return image_of(5, 6, *[(head(5, order + 1),) + row for order, row in enumerate(rows)])


def blank_places(image):
    """The blank pages behind heads of listed blocks."""
    reading = ByHand(image)
    return [(block, page) for block, _ in reading.listed for page, word in enumerate(image[block][2])
            if word == BLANK and "head" in reading.kinds[block][:page]]


def end_of(image):
    """The next page of the current block."""
    block = ByHand(image).listed[-1][0]
    return block, next_page(image, block)


class KindsTest(unittest.TestCase):
    def test_each_word(self):
        row = (head(5, 1), note(1, 1, A, 1), drop(1), HALF, IDLES[0])
        self.assertEqual(kinds_in(image_of(5, 6, row))[0], ("head", "note", "drop", "half", "idle", "blank"))
        self.assertEqual(kinds_in(image_of(5, 6, row))[1:], (("blank",) * 6,) * 4)
        self.assertEqual(kinds_in(blank_image(12, 12)), (("blank",) * 12,) * 12)

    def test_idle_pages(self):
        for word in IDLES:
            self.assertEqual(state_of(word), "whole")
            self.assertEqual(kinds_in(image_of(5, 5, (word,)))[0][0], "idle")

    def test_a_head_is_the_first_whole_page(self):
        first, second = head(5, 3), head(5, 4)
        rows = {
            (first,): ("head",), (BLANK, first): ("blank", "head"), (HALF, HALF, first): ("half", "half", "head"),
            (first, second): ("head", "idle"), (HALF, first, second): ("half", "head", "idle"),
            (IDLES[0], first): ("idle", "idle"), (note(1, 1, A, 1), first): ("note", "idle"),
            (drop(1), first): ("drop", "idle"), (BLANK, IDLES[1], first): ("blank", "idle", "idle")}
        for row, kinds in rows.items():
            image = image_of(5, 5, row)
            self.assertEqual(kinds_in(image)[0][:len(row)], kinds)
            self.assertEqual(listed(image), ((0, 3),) if "head" in kinds else ())

    def test_a_head_of_another_number_of_blocks_is_idle(self):
        for many in range(5, 13):
            for other in range(5, 13):
                kinds = kinds_in(image_of(many, 5, (head(other, 1),)))
                self.assertEqual(kinds[0][0], "head" if other == many else "idle")

    def test_one_bit_that_is_changed_makes_a_page_half(self):
        for word in (head(5, 1), note(1, 1, A, 1), drop(1)):
            for bit in range(WIDTH):
                image = image_of(5, 5, (head(5, 1), word ^ (1 << bit)))
                self.assertEqual(kinds_in(image)[0][1], "half")

    def test_pages_that_tell_no_numbers_are_idle(self):
        """Whole pages with a unit behind their numbers that is not 0, or with a first unit above 31."""
        units = (3, 3, 0, 1) + (0,) * 27 + (1,)
        for row in (units, (32,) + units[1:31] + (0,), (65535,) * 31 + (0,)):
            data = sum([unit * 65536 ** (31 - index) for index, unit in enumerate(row)])
            page = data * 1024 + 512 - bin(data).count("1")
            self.assertEqual(state_of(page), "whole")
            self.assertEqual(kinds_in(image_of(5, 5, (page, head(5, 1))))[0][:2], ("idle", "idle"))

    def test_bad_blocks_are_read_too(self):
        image = small((note(1, 1, A, 1),))
        bad = ((True, 77, image[0][2]),) + image[1:]
        for read in READINGS:
            self.assertEqual(read(bad), read(image))


class StartTest(unittest.TestCase):
    def test_start(self):
        self.assertEqual(start_of(blank_image(5, 5)), 1)
        self.assertEqual(start_of(image_of(5, 5, (HALF, IDLES[0], note(1, 1, A, 1)))), 1)
        self.assertEqual(start_of(image_of(5, 5, (head(5, 9, 3),), (head(5, 8, 7),), (head(5, 7, 5),))), 7)
        self.assertEqual(start_of(image_of(5, 5, (head(5, 9, 3),), (head(5, 8, 1), drop(6), drop(2)))), 6)
        self.assertEqual(start_of(image_of(5, 5, (head(5, GREATEST, GREATEST),))), GREATEST)
        self.assertEqual(start_of(image_of(5, 5, (), (HALF, drop(GREATEST)))), GREATEST)

    def test_drops_count_in_any_block(self):
        for row in ((drop(4),), (HALF, drop(4)), (IDLES[0], head(5, 9, 9), drop(4)), (head(5, 2), drop(4))):
            image = image_of(5, 5, (head(5, 3),), row, (head(5, 4),))
            self.assertEqual((start_of(image), listed(image)), (4, ((2, 4),)))

    def test_other_heads_tell_no_start(self):
        self.assertEqual(start_of(image_of(5, 5, (head(5, 9, 2), head(5, 9, 8)), (IDLES[0], head(5, 7, 7)))), 2)

    def test_a_half_drop_tells_nothing(self):
        for bit in range(0, WIDTH, 7):
            self.assertEqual(start_of(small((drop(5) ^ (1 << bit),))), 1)


class ListedTest(unittest.TestCase):
    def test_in_the_order_of_orders(self):
        rows = [(IDLES[0],) if order is None else (head(6, order),) for order in (9, 3, 11, None, 3, 65536)]
        image = image_of(6, 5, *rows)
        self.assertEqual(listed(image), ((1, 3), (4, 3), (0, 9), (2, 11), (5, 65536)))
        self.assertEqual(listed(blank_image(5, 5)), ())

    def test_from_start_on(self):
        for start in range(1, 7):
            image = image_of(5, 5, (head(5, 3),), (head(5, 4),), (head(5, 5), drop(start)), (head(5, 2),))
            blocks = ((3, 2), (0, 3), (1, 4), (2, 5))
            self.assertEqual(listed(image), tuple([pair for pair in blocks if pair[1] >= start]))

    def test_a_head_may_take_others_off_the_list(self):
        image = image_of(5, 5, (head(5, 3),), (head(5, 4),), (head(5, 5, 4),))
        self.assertEqual(listed(image), ((1, 4), (2, 5)))
        self.assertEqual(notes_in(image), ())

    def test_a_drop_more_never_puts_a_block_on_the_list(self):
        luck, fewer = seeded(1), 0
        for _ in range(150):
            image = luck.choice((wild_image, orderly_image))(luck)
            kinds = kinds_in(image)
            for block, (_, _, pages) in enumerate(image):
                for page, word in enumerate(pages):
                    if word == BLANK and ("head" in kinds[block][:page] or "head" not in kinds[block]):
                        behind = listed(with_page(image, block, page, drop(luck.randint(1, 12))))
                        self.assertTrue(all(pair in listed(image) for pair in behind))
                        fewer += behind != listed(image)
        self.assertGreater(fewer, 100)


class NotesTest(unittest.TestCase):
    def test_in_the_order_of_blocks_and_pages(self):
        image = image_of(5, 6, (head(5, 9), HALF, note(3, 1, A, None), drop(2)), (note(7, 1, A, 1),),
                         (BLANK, head(5, 2), note(1, 0, ONE, ("file", 3)), BLANK, note(1, 1, A, 1), IDLES[0]),
                         (head(5, 1), note(6, 1, A, 1)))
        self.assertEqual(notes_in(image), ((2, 2, 1, 0, ONE, ("file", 3)), (2, 4, 1, 1, A, 1), (0, 2, 3, 1, A, None)))

    def test_which_count(self):
        rows = ((note(1, 0, A, 1), note(2, 0, B, 1), note(3, 2, ONE, ("folder", 0)), note(2, 2, PIECE, None)),
                (note(2, 0, B, 7), note(1, 1, PIECE, (1,))))
        image = small(*rows)
        self.assertEqual([one[:4] for one in counting(image)],
                         [(0, 1, 1, 0), (0, 3, 3, 2), (0, 4, 2, 2), (1, 2, 1, 1)])

    def test_a_deed_is_ended_by_a_listed_note_with_flag_1_alone(self):
        begun = note(4, 0, A, 1)
        for row, count in (((), 0), ((note(4, 0, B, 1),), 0), ((note(4, 2, B, 1),), 1), ((note(5, 1, B, 1),), 1),
                           ((note(4, 1, B, 1),), 2), ((note(4, 1, B, 1) ^ 1,), 0), ((HALF, note(4, 1, B, 1)), 2)):
            self.assertEqual(len(counting(small((begun,), row))), count)
        unlisted = image_of(5, 6, (head(5, 1), note(4, 1, B, 1)), (head(5, 2, 2), begun))
        self.assertEqual((len(notes_in(unlisted)), counting(unlisted)), (1, ()))
        ahead = small((note(4, 1, B, 1),), (begun,))
        self.assertEqual(len(counting(ahead)), 2)


class TableTest(unittest.TestCase):
    def test_the_greatest_deed_gives(self):
        image = small((note(3, 1, A, 3), note(1, 1, A, 1), note(2, 2, A, 2)), (note(2, 1, A, 4),))
        self.assertEqual(table_of(image), ((A, 3),))

    def test_of_several_the_last_one_gives(self):
        for first, second in ((0, 1), (1, 0), (2, 1), (1, 2), (2, 2), (1, 1)):
            self.assertEqual(table_of(small((note(3, first, A, 3), note(3, second, A, 5)))), ((A, 5),))
            self.assertEqual(table_of(small((note(3, first, A, 3),), (note(3, second, A, 5),))), ((A, 5),))
        self.assertEqual(table_of(small((note(4, 0, A, 3), note(3, 1, A, 5)))), ((A, 5),))

    def test_gone_ones_and_the_order_of_keys(self):
        image = small((note(1, 0, PIECE, None), note(1, 0, ONE, ("folder", 0)), note(1, 0, B, 1), note(1, 1, A, None)))
        table = ((A, None), (B, 1), (ONE, ("folder", 0)), (PIECE, None))
        self.assertEqual(table_of(image), table)
        self.assertEqual(told_by_table(table), table[1:3])
        self.assertEqual([table_of(blank_image(5, 5)), told_by_table(())], [(), ()])

    def test_keys_ascend_as_python_compares_them(self):
        keys = [("piece", 1, 10), ("piece", 1, 9), ("node", 10), ("node", 9), ("name", 0, "b"), ("name", 0, "-"),
                ("name", 0, "ab"), ("name", 0, "a"), ("name", 10, "a"), ("name", 9, "z"), ("name", 0, "0")]
        values = {"piece": (1,), "node": ("file", 0), "name": 1}
        words = [note(1, 2, key, values[key[0]]) for key in keys]
        image = image_of(5, 12, (head(5, 1),) + tuple(words))
        self.assertEqual([key for key, _ in table_of(image)], sorted(keys))

    def test_told_by_table(self):
        self.assertEqual(told_by_table(PAIRS), PAIRS[:2] + PAIRS[3:])
        self.assertEqual(told_by_table(table=((A, None), (B, None))), ())

    def test_a_note_that_does_not_count_leaves_the_table(self):
        luck, tried = seeded(2), 0
        for _ in range(200):
            image = luck.choice((wild_image, orderly_image))(luck)
            for block, page in blank_places(image)[:6]:
                key = luck.choice(KEYS)
                more = with_page(image, block, page, note(9, 0, key, luck.choice(VALUES[key])))
                self.assertEqual(len(notes_in(more)), len(notes_in(image)) + 1)
                self.assertEqual(table_of(more), table_of(image))
                tried += 1
        self.assertGreater(tried, 300)

    def test_a_copy_of_a_giver_leaves_the_table(self):
        luck, tried = seeded(3), 0
        for _ in range(200):
            image = luck.choice((wild_image, orderly_image))(luck)
            givers = list(ByHand(image).givers.values())
            for block, page in blank_places(image)[:6] if givers else []:
                _, _, deed, _, key, value = luck.choice(givers)
                more = with_page(image, block, page, note(deed, 2, key, value))
                self.assertEqual(table_of(more), table_of(image))
                tried += 1
        self.assertGreater(tried, 200)

    def test_an_end_note_behind_all_others_adds_its_deed(self):
        luck, tried = seeded(4), 0
        for _ in range(300):
            image = luck.choice((wild_image, orderly_image))(luck)
            if not listed(image):
                continue
            deed = greatest_deed(image) + luck.choice((0, 1)) or 1
            block, page = end_of(image)
            if page is None or any(one[2] == deed and one[3] != 0 for one in notes_in(image)):
                continue
            key = luck.choice(KEYS)
            value = luck.choice(VALUES[key])
            due = dict(table_of(image))
            due.update([one[4:] for one in notes_in(image) if one[2] == deed] + [(key, value)])
            more = with_page(image, block, page, note(deed, 1, key, value))
            self.assertEqual(table_of(more), tuple(sorted(due.items(), key=lambda pair: pair[0])))
            tried += 1
        self.assertGreater(tried, 80)

    def test_without_the_eldest_block(self):
        """[B5]: of an orderly image the keys that other blocks give stay, those of the eldest are told no more."""
        luck, tried, told_no_more = seeded(5), 0, 0
        for _ in range(300):
            image = orderly_image(luck)
            blocks, places = listed(image), blank_places(image)
            if len(blocks) < 2 or not places:
                continue
            block, page = places[-1]
            less = with_page(image, block, page, drop(blocks[1][1]))
            self.assertEqual(listed(less), blocks[1:])
            givers = ByHand(image).givers
            stay = tuple([(key, giver[5]) for key, giver in givers.items() if giver[0] != blocks[0][0]])
            self.assertEqual(table_of(less), stay)
            told_no_more += len(givers) - len(stay)
            tried += 1
        self.assertGreater(min(tried, told_no_more), 80)


class ReadTest(unittest.TestCase):
    """[B6]: what else is read."""

    def test_next_page(self):
        rows = {(): 0, (1,): 1, (BLANK, 1): 2, (HALF, BLANK, BLANK, HALF): 4, (BLANK,) * 4 + (0,): None,
                (1, 2, 3, 4, 5): None, (BLANK - 1,): 1, (IDLES[0], BLANK, IDLES[0]): 3, (1, 2, 3, 4): 4}
        for row, page in rows.items():
            self.assertEqual(next_page(image_of(5, 5, row), 0), page)
            self.assertEqual(next_page(image_of(7, 5, (), (), (), (), (), (), row), 6), page)
        self.assertEqual(next_page(block=11, image=blank_image(12, 12)), 0)

    def test_the_greatest_deed_and_node(self):
        image = blank_image(5, 5)
        self.assertEqual((greatest_deed(image), greatest_node(image)), (0, 0))
        image = small((note(7, 0, A, None),))
        self.assertEqual((greatest_deed(image), greatest_node(image)), (7, 0))
        image = small((note(7, 0, A, 5), note(9, 0, ("node", 4), ("file", 200)), note(3, 2, ("piece", 3, 15), (99,))))
        self.assertEqual((greatest_deed(image), greatest_node(image)), (9, 5))
        for key, value in ((("name", 8, "a"), 2), (("node", 8), ("folder", 0)), (("piece", 8, 0), None), (A, 8),
                           (("name", 8, "a"), None), (("name", 2, "z"), 8)):
            for flag in (0, 1, 2):
                self.assertEqual(greatest_node(small((note(1, 1, B, 2),), (note(2, flag, key, value),))), 8)
        image = small((note(GREATEST, 2, ("name", GREATEST, "a"), 1),))
        self.assertEqual((greatest_deed(image), greatest_node(image)), (GREATEST, GREATEST))

    def test_only_listed_notes_are_read(self):
        image = image_of(5, 5, (head(5, 3), note(9, 1, ("node", 9), ("folder", 0))), (head(5, 4, 4), note(2, 1, A, 3)),
                         (note(8, 1, A, 8),))
        self.assertEqual((greatest_deed(image), greatest_node(image)), (2, 3))

    def test_what_the_current_head_tells(self):
        for many in (5, 8, 12):
            image = blank_image(many, 5)
            self.assertEqual((known_erasures(image), known_bads(image)), ((0,) * many, ()))
            told = tuple(range(many))
            image = image_of(many, 5, (head(many, 3, 1, (1,), (9,) * many),), (head(many, 4, 1, (0, many - 1), told),),
                             (head(many, 2, 1, (2,), (8,) * many),))
            self.assertEqual((known_erasures(image), known_bads(image)), (told, (0, many - 1)))
            gone = with_page(image, 3, 0, drop(5))
            self.assertEqual((known_erasures(gone), known_bads(gone)), ((0,) * many, ()))

    def test_of_one_order_the_block_of_the_greater_index_is_current(self):
        image = image_of(5, 5, (head(5, 3, 1, (1,)),), (head(5, 3, 1, (2,)),), (head(5, 2, 1, (3,)),))
        self.assertEqual(known_bads(image), (2,))

    def test_the_image_s_own_erasures_and_bad_blocks_are_not_read(self):
        image = tuple([(True, 50 + block, pages) for block, (_, _, pages) in enumerate(small(()))])
        self.assertEqual((known_erasures(image), known_bads(image)), ((0,) * 5, ()))

    def test_reading_changes_nothing(self):
        luck = seeded(6)
        for _ in range(40):
            image = wild_image(luck)
            chip = Chip(image, ())
            first = [read(image) for read in READINGS]
            for _ in range(3):
                self.assertEqual([read(chip.image()) for read in READINGS], first)
            self.assertEqual((chip.image(), chip.operations()), (image, 0))


class OrderlyTest(unittest.TestCase):
    def assert_orderly(self, is_so, *rows):
        self.assertIs(is_orderly(small(*rows)), is_so, rows)
        flat = tuple([word for row in rows for word in row])
        self.assertIs(is_orderly(image_of(5, 12, (head(5, 1),) + flat)), is_so, rows)

    def test_blank_and_empty_ones(self):
        self.assert_orderly(True)
        self.assert_orderly(True, (), ())
        self.assertIs(is_orderly(blank_image(5, 5)), True)

    def test_no_two_listed_blocks_have_one_order(self):
        self.assertIs(is_orderly(image_of(5, 5, (head(5, 3),), (head(5, 4),), (head(5, 3),))), False)
        self.assertIs(is_orderly(image_of(5, 5, (head(5, 3),), (head(5, 4, 4),), (head(5, 3),))), True)
        self.assertIs(is_orderly(image_of(5, 5, (head(5, 3),), (IDLES[0], head(5, 3)))), True)

    def test_none_of_a_deed_behind_its_end_note(self):
        end = note(2, 1, A, 1)
        self.assert_orderly(False, (end,), (note(2, 0, B, 1),))
        self.assert_orderly(False, (end,), (note(2, 1, B, 1),))
        self.assert_orderly(False, (end, end))
        self.assert_orderly(True, (end,), (note(2, 2, B, 1),))
        self.assert_orderly(True, (end,), (note(2, 2, A, 1),))
        self.assert_orderly(True, (note(2, 0, B, 1), note(2, 0, ONE, ("folder", 0))), (end,))

    def test_none_of_a_deed_behind_one_of_a_greater_deed(self):
        for greater in (0, 1):
            for flag in (0, 1):
                self.assert_orderly(False, (note(3, greater, A, 1),), (note(2, flag, B, 1),))
            self.assert_orderly(True, (note(3, greater, A, 1),), (note(2, 2, B, 1),))
        for flag in (0, 1, 2):
            self.assert_orderly(True, (note(3, 2, A, 1),), (note(2, flag, B, 1),))
        self.assert_orderly(False, (note(3, 0, A, 1), note(1, 2, ONE, ("folder", 0))), (note(2, 0, B, 1),))

    def test_no_unlike_values_of_one_key_and_deed(self):
        self.assert_orderly(False, (note(2, 0, A, 1), note(2, 1, A, 2)))
        self.assert_orderly(False, (note(2, 1, A, 1),), (note(2, 2, A, None),))
        self.assert_orderly(False, (note(2, 2, A, 1),), (note(2, 2, B, 7), note(2, 2, A, 2)))
        self.assert_orderly(True, (note(2, 0, A, 1), note(2, 1, A, 1)), (note(2, 2, A, 1),))
        self.assert_orderly(True, (note(2, 0, A, 1), note(2, 0, A, 2)))
        self.assert_orderly(True, (note(2, 0, A, 1), note(3, 1, A, 2)))
        self.assert_orderly(False, (note(1, 2, PIECE, (0,)), note(1, 2, PIECE, (0, 0))))
        self.assert_orderly(False, (note(1, 2, ONE, ("folder", 0)), note(1, 2, ONE, ("file", 0))))

    def test_no_counting_note_behind_one_of_its_key_with_a_greater_deed(self):
        self.assert_orderly(False, (note(3, 1, A, 1),), (note(2, 2, A, 1),))
        self.assert_orderly(False, (note(3, 2, A, 1),), (note(2, 2, A, 1),))
        self.assert_orderly(False, (note(3, 2, A, 1),), (note(2, 1, A, 1),))
        self.assert_orderly(True, (note(3, 2, A, 1),), (note(2, 0, A, 1),))
        self.assert_orderly(True, (note(3, 0, A, 1),), (note(2, 2, A, 1),))
        self.assert_orderly(False, (note(1, 2, A, 1), note(3, 2, A, 1), note(2, 2, B, 1)), (note(2, 2, A, 2),))

    def test_nothing_is_asked_of_blocks_that_are_not_listed(self):
        luck = seeded(7)
        for _ in range(60):
            image = image_of(7, 6, (head(7, 8, 8), note(1, 0, A, 1)), (head(7, 9), note(1, 1, B, 1)))
            for block in range(2, 7):
                rest = [some_note_page(luck) for _ in range(4)]
                row = (luck.choice((BLANK, HALF, head(7, luck.randint(1, 7)), IDLES[0])), luck.choice((HALF, drop(8))))
                image = image[:block] + ((False, 1, row + tuple(rest)),) + image[block + 1:]
            self.assertEqual(listed(image), ((0, 8), (1, 9)))
            self.assertIs(is_orderly(image), True)
            self.assertEqual(table_of(image), ((A, 1), (B, 1)))

    def test_pages_that_seem_blank_amid_a_block(self):
        self.assertIs(is_orderly(image_of(5, 6, (head(5, 1), BLANK, note(1, 0, A, 1), HALF, note(1, 1, B, 1)))), True)

    def test_orderly_images_are(self):
        luck = seeded(8)
        for _ in range(200):
            image = orderly_image(luck)
            self.assertEqual(ByHand(image).faults(), set())
            self.assertIs(is_orderly(image), True)


class BesideByHandTest(unittest.TestCase):
    def assert_read(self, image):
        by_hand = ByHand(image)
        self.assertEqual(kinds_in(image), tuple([tuple(row) for row in by_hand.kinds]))
        self.assertEqual((start_of(image), listed(image)), (by_hand.start, by_hand.listed))
        self.assertEqual(notes_in(image), tuple(by_hand.notes))
        self.assertEqual(counting(image), tuple(by_hand.counting))
        self.assertEqual(table_of(image), by_hand.table)
        there = tuple([pair for pair in by_hand.table if pair[1] is not None])
        self.assertEqual(told_by_table(table_of(image)), there)
        self.assertEqual((greatest_deed(image), greatest_node(image)), (by_hand.deed, by_hand.node))
        self.assertEqual((known_bads(image), known_erasures(image)), by_hand.current()[3:])
        for block in range(len(image)):
            self.assertEqual(next_page(image, block), by_hand.next_page(block))
        self.assertIs(is_orderly(image), by_hand.faults() == set())
        return by_hand

    def test_wild_images(self):
        luck, blocks = seeded(9), []
        for _ in range(400):
            blocks.append(len(self.assert_read(wild_image(luck)).listed))
        self.assertTrue(all(blocks.count(many) > 10 for many in range(5)), blocks)

    def test_images_with_one_page_changed(self):
        """Orderly images of which a page is another one now, or two have changed places: each fault comes up alone."""
        luck, faults = seeded(10), {}
        for _ in range(800):
            image = orderly_image(luck)
            places = [(block, page) for block, (_, _, pages) in enumerate(image) for page, word in enumerate(pages)
                      if word != BLANK]
            (block, page), (other, place) = luck.choice(places), luck.choice(places)
            again = head(len(image), luck.randint(1, 9))
            word = luck.choice((image[other][2][place], some_note_page(luck), BLANK, again))
            image = with_page(with_page(image, other, place, image[block][2][page]), block, page, word)
            found = tuple(sorted(self.assert_read(image).faults()))
            faults[found] = faults.get(found, 0) + 1
        for fault in ("same order", "ended", "turned back", "elder behind", "unlike"):
            self.assertIn((fault,), faults)
        self.assertGreater(faults[()], 100)

    def test_what_cuts_leave_of_pages(self):
        luck = seeded(11)
        for _ in range(60):
            image = wild_image(luck)
            for _ in range(6):
                block, page = luck.randrange(len(image)), luck.randrange(len(image[0][2]))
                image = with_page(image, block, page, image[block][2][page] & some_mask(luck) % (1 << WIDTH))
            self.assert_read(image)

    def test_the_greatest_chip(self):
        keys = [("name", node, "z" * 9) for node in range(1, 122)]
        rows = [(head(12, order + 1),) + tuple([note(order + 1, 2, key, 9) for key in keys[order * 10:order * 10 + 10]])
                for order in range(12)]
        image = image_of(12, 12, *rows)
        self.assertEqual(len(self.assert_read(image).table), 120)

    def test_arguments_by_name(self):
        for read in READINGS:
            self.assertEqual(read(image=blank_image(5, 5)), read(blank_image(5, 5)))

    def test_a_node_s_key_may_stand_without_a_name(self):
        self.assertEqual(table_of(small((note(1, 1, TWO, ("folder", 0)),))), ((TWO, ("folder", 0)),))
        self.assertEqual(word_of((2, 0, 1, 1, 2, 0, 2, 1, 0)), note(1, 1, TWO, ("folder", 0)))


if __name__ == "__main__":
    unittest.main()
