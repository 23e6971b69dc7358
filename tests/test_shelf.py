"""The shelf by hand: [C1] to [C8] and [C12], as flashtrees/shelf.py tells it."""

import unittest

from flashtrees.chip import Chip, blank_image
from flashtrees.errors import NoRoom, NotOrderly, NotSound, PowerCut, WornOut
from flashtrees.notes import told_of
from flashtrees.pages import BLANK, WIDTH, told_by
from flashtrees.reading import counting, kinds_in, listed, notes_in, start_of, table_of
from flashtrees.shelf import Shelf
from tests.images import HALF, drop, head, image_of, note, with_page
from tests.stories import cut_mask, wear
from tests.support import FlashCase, seeded
from tests.values import GREATEST

A, B, C = ("name", 0, "a"), ("name", 0, "b"), ("name", 0, "c")
ONE, TWO = ("node", 1), ("node", 2)
MADE = ((A, 1), (ONE, ("file", 20)))
DONE = ("done",)
WHOLE = ("fails", 0)
BARE = ("fails", BLANK)
# No word has the highest bit, so a page of which it is left is half; its check is not below its zeros.
TORN = ("fails", 1 << (WIDTH - 1))
RAGGED = (1 << (WIDTH - 1)) | note(1, 1, A, 1)
LAST_COUNT = 2 ** 32 - 10000


def length(number):
    """The note that file 1 has so many cells."""
    return ((ONE, ("file", number)),)


def head_of(image, block):
    return told_of(len(image), told_by(image[block][2][0]))


def bad(image, *blocks):
    rows = enumerate(image)
    return tuple([(block in blocks or is_bad, erasures, pages) for block, (is_bad, erasures, pages) in rows])


def notes_with_flags(image):
    return [(each[0], each[1], each[2], each[3]) for each in notes_in(image)]


class OpenTest(FlashCase):
    def test_numbers_of_a_blank_chip(self):
        for many in range(5, 13):
            for size in range(5, 13):
                for spare in range(min(3, many - 4) + 1):
                    chip = Chip(blank_image(many, size), ())
                    shelf = Shelf(chip, spare)
                    room = (many - spare - 2) * (size - 2)
                    self.assertEqual((shelf.room, shelf.free(), shelf.reserve(), shelf.bads),
                                     (room, many, spare + 1, ()))
                    self.assertEqual((shelf.space(), shelf.live(), shelf.table()), (room + size - 2, 0, ()))
                    self.assertEqual(chip.operations(), 0)

    def test_what_the_current_head_told(self):
        image = image_of(6, 6, (head(6, 4, 1, (0, 5), (9, 9, 9, 9, 9, 9)),),
                         (head(6, 5, 1, (2, 4), (1, 2, 3, 4, 5, 6)),))
        shelf = Shelf(Chip(image, ()), 2)
        self.assertEqual((shelf.bads, shelf.free(), shelf.reserve(), shelf.space()), ((2, 4), 2, 1, 4 + 4))
        few = Shelf(Chip(image, ()), 0)
        self.assertEqual((few.bads, few.reserve(), few.space()), ((2, 4), -1, 4 + 3 * 4))
        self.assert_refused(WornOut(), few.do, MADE)

    def test_bad_blocks_are_not_known_ahead(self):
        shelf = Shelf(Chip(bad(blank_image(6, 5), 0, 1), ()), 2)
        self.assertEqual((shelf.bads, shelf.free()), ((), 6))
        shelf.do(MADE)
        self.assertEqual((shelf.bads, shelf.free(), shelf.reserve()), ((0, 1), 3, 1))

    def test_power_and_order(self):
        chip = Chip(blank_image(5, 5), (("cut", 0),))
        self.assert_refused(PowerCut(), chip.erase, 4)
        self.assert_refused(PowerCut(), Shelf, chip, 1)
        wrong = image_of(5, 5, (head(5, 1),), (head(5, 1),))
        self.assert_refused(NotOrderly(), Shelf, Chip(wrong, ()), 1)
        unsound = image_of(5, 5, (head(5, 1), note(1, 1, A, 1)))
        self.assert_refused(NotOrderly(), Shelf, Chip(unsound, ()), 0)
        cut = Chip(unsound, (("cut", BLANK),))
        self.assert_refused(PowerCut(), cut.program, 4, 4, 0)
        self.assert_refused(PowerCut(), Shelf, cut, 0)

    def test_opening_writes_nothing(self):
        image = image_of(5, 5, (head(5, 1), note(1, 1, B, None), note(2, 0, A, 1)), (head(5, 2),))
        chip = Chip(image, (("cut", 0),))
        for _ in range(3):
            shelf = Shelf(chip, 1)
            self.assertEqual((chip.image(), chip.operations(), shelf.live(), shelf.table()), (image, 0, 0, ()))

    def test_read_alone(self):
        shelf = Shelf(Chip(blank_image(5, 5), ()), 0)
        for name in ("room", "bads"):
            with self.assertRaises(AttributeError):
                setattr(shelf, name, 1)


class BlockTest(FlashCase):
    def test_heads(self):
        told = (7, 65535, 65534, 0, 3, 0)
        image = image_of(6, 5, (head(6, 8, 5, (3,), told), note(1, 1, B, None), HALF, HALF))
        image = bad(image, 4)
        chip = Chip(image, ())
        shelf = Shelf(chip, 2)
        shelf.do(MADE)
        self.assertEqual(head_of(chip.image(), 1), ("head", 9, 5, (3,), (7, 65535, 65534, 0, 3, 0)))
        shelf.do(length(1))
        shelf.do(length(2))
        self.assertEqual(head_of(chip.image(), 2), ("head", 10, 5, (3,), (7, 65535, 65535, 0, 3, 0)))
        for number in range(3, 6):
            shelf.do(length(number))
        self.assertEqual(chip.image()[4], image[4])
        self.assertEqual(head_of(chip.image(), 5), ("head", 11, 5, (3, 4), (7, 65535, 65535, 0, 3, 1)))
        self.assertEqual(shelf.bads, (3, 4))

    def test_the_first_order_is_the_start(self):
        image = image_of(5, 5, (HALF, drop(77)), (head(5, 70, 70),))
        chip = Chip(image, ())
        Shelf(chip, 0).do(MADE)
        # Block 0 may not be erased, as it alone tells the START; block 1 is not listed.
        self.assertEqual(listed(chip.image()), ((1, 77),))
        self.assertEqual(head_of(chip.image(), 1), ("head", 77, 77, (), (0, 1, 0, 0, 0)))

    def test_going_round_by_index(self):
        rows = {block: () for block in range(7)}
        rows[4] = (head(7, 3, 3), note(1, 1, B, None), HALF, HALF, HALF)
        rows[5] = (5,)
        rows[0] = (RAGGED, head(7, 1), head(7, 2, 2))
        rows[1] = (note(1, 1, B, None), head(7, 1))
        chip = Chip(bad(image_of(7, 5, *[rows[block] for block in range(7)]), 2), ())
        shelf = Shelf(chip, 3)
        self.assertEqual((shelf.free(), shelf.space()), (6, 6))
        for number in range(3):
            shelf.do(((A, None), (B, None)))
        self.assertEqual(listed(chip.image()), ((4, 3), (6, 4), (3, 5)))
        self.assertEqual((shelf.bads, shelf.free(), shelf.reserve()), ((2,), 3, 3))
        self.assertEqual(kinds_in(chip.image())[:2], (("half", "head", "idle", "blank", "blank"),
                                                      ("note", "idle", "blank", "blank", "blank")))

    def test_no_block_is_free_that_has_to_be(self):
        rows = [(5,)] * 5
        chip = Chip(image_of(5, 5, *rows), ())
        shelf = Shelf(chip, 0)
        for _ in range(3):
            self.assert_refused(WornOut(), shelf.do, MADE)
            self.assertEqual((chip.operations(), shelf.free(), shelf.space()), (0, 5, 12))

    def test_what_is_written_next_goes_behind_the_last_page_that_is_not_blank(self):
        image = image_of(5, 7, (HALF, head(5, 1), BLANK, note(1, 1, B, None), BLANK, BLANK))
        image = with_page(image, 0, 4, HALF)
        chip = Chip(image, ())
        shelf = Shelf(chip, 0)
        self.assertEqual(shelf.space(), 1 + 3 * 5)
        shelf.do(MADE)
        self.assertEqual(notes_with_flags(chip.image()), [(0, 3, 1, 1), (0, 5, 2, 0), (1, 1, 2, 1)])
        self.assertEqual(chip.operations(), 4)

    def test_the_last_page_takes_no_note(self):
        chip = Chip(blank_image(5, 5), ())
        shelf = Shelf(chip, 0)
        shelf.do(((A, None), (B, None), (C, None)))
        self.assertEqual(kinds_in(chip.image())[0], ("head", "note", "note", "note", "blank"))
        shelf.do(((A, None),))
        self.assertEqual(kinds_in(chip.image())[0:2], (("head", "note", "note", "note", "blank"),
                                                       ("head", "note", "blank", "blank", "blank")))


class DeedTest(FlashCase):
    def test_flags_and_numbers(self):
        chip = Chip(blank_image(5, 6), ())
        shelf = Shelf(chip, 0)
        shelf.do(((A, 1), (B, 1), (ONE, ("file", 0))))
        shelf.do(length(3))
        self.assertEqual(notes_with_flags(chip.image()), [(0, 1, 1, 0), (0, 2, 1, 0), (0, 3, 1, 1), (0, 4, 2, 1)])
        self.assertEqual(shelf.table(), ((A, 1), (B, 1), (ONE, ("file", 3))))

    def test_a_deed_number_is_above_those_of_deeds_that_are_not_ended(self):
        image = image_of(5, 6, (head(5, 1), note(3, 1, B, None), note(9, 0, A, 1)))
        chip = Chip(image, ())
        Shelf(chip, 0).do(((C, None),))
        self.assertEqual(notes_with_flags(chip.image())[-1], (0, 3, 10, 1))

    def test_nothing_is_done_for_no_notes(self):
        chip = Chip(blank_image(5, 5), ())
        shelf = Shelf(chip, 0)
        self.assertIsNone(shelf.do(()))
        self.assertEqual(chip.operations(), 0)
        # A block that would be begun anew stays, and a count that would wear out does not matter.
        image = image_of(5, 5, (head(5, GREATEST, GREATEST, (0, 1)),))
        chip = Chip(image, ())
        self.assertIsNone(Shelf(chip, 0).do(()))
        self.assertEqual((chip.operations(), chip.image()), (0, image))

    def test_not_sound(self):
        chip = Chip(blank_image(5, 5), ())
        shelf = Shelf(chip, 0)
        shelf.do(MADE)
        left = chip.image()
        for notes in (((B, 2),), ((("name", 1, "x"), 9), (ONE, ("folder", 0))),
                      ((("name", 1, "x"), 1), (ONE, ("folder", 0))), (((("piece", 1, 1), (1,) * 5)),),
                      tuple([(("name", 0, "f" + str(k)), 7) for k in range(9)])):
            self.assert_refused(NotSound(), shelf.do, notes)
        self.assertEqual(chip.image(), left)
        shelf.do(((("piece", 1, 1), (1,) * 4),))

    def test_notes_never_lead_back_to_what_was_not_reached(self):
        chip = Chip(blank_image(5, 6), ())
        shelf = Shelf(chip, 0)
        shelf.do(MADE)
        shelf.do(((A, None),))
        self.assertEqual((shelf.table(), shelf.live()), (((ONE, ("file", 20)),), 0))
        self.assert_refused(NotSound(), shelf.do, ((B, 1),))
        shelf.do(((B, 1), (ONE, ("file", 20))))
        self.assertEqual(shelf.live(), 2)
        # A piece that is not live would come to life unseen.
        shelf.do(((B, None),))
        shelf.do(((("piece", 1, 0), (7,)),))
        self.assert_refused(NotSound(), shelf.do, ((B, 1), (ONE, ("file", 20))))
        shelf.do(((B, 1), (ONE, ("file", 20)), (("piece", 1, 0), None)))

    def test_no_room(self):
        shelf = Shelf(Chip(blank_image(5, 5), ()), 0)
        names = tuple([(("name", 0, "n" + str(k)), None) for k in range(10)])
        self.assert_refused(NoRoom(), shelf.do, names)
        shelf.do(names[:9])
        shelf.do(MADE)
        self.assert_refused(NoRoom(), shelf.do, names[:8])
        self.assert_refused(NotSound(), shelf.do, ((B, 5),) + names)
        self.assertIsNone(shelf.do(names[:7]))

    def test_no_room_for_what_lives_alone(self):
        rows = [(head(5, 1),) + tuple([note(k, 2, ("name", 0, "a" * k), 1) for k in range(1, 7)]),
                (head(5, 2), note(9, 2, ONE, ("file", 0)))]
        rows[1] += tuple([note(k + 20, 2, ("name", 0, "b" * k), 1) for k in range(1, 9)])
        chip = Chip(image_of(5, 12, *rows), ())
        self.assertEqual(Shelf(chip, 0).live(), 15)
        shelf = Shelf(chip, 1)
        self.assertEqual((shelf.room, shelf.live()), (20, 15))
        small = Chip(image_of(5, 6, *[row[:6] for row in rows]), ())
        shelf = Shelf(small, 1)
        self.assertEqual((shelf.room, shelf.live()), (8, 10))
        self.assert_refused(NoRoom(), shelf.do, ((B, None),))

    def test_power_cut(self):
        chip = Chip(blank_image(5, 5), (DONE,) * 3 + (("cut", 0),))
        shelf = Shelf(chip, 0)
        self.assert_refused(PowerCut(), shelf.do, MADE)
        told = (shelf.table(), shelf.live(), shelf.space(), shelf.free(), shelf.reserve(), shelf.room, shelf.bads)
        self.assertEqual(told, ((), 0, 3 * 3 + 2, 4, 1, 9, ()))
        self.assert_refused(PowerCut(), shelf.do, MADE)
        self.assert_refused(PowerCut(), shelf.do, ())
        self.assert_refused(PowerCut(), shelf.do, ((B, 7),))
        self.assertEqual(table_of(chip.image()), MADE)


class FailTest(FlashCase):
    def test_a_note_that_fails_is_written_once_more_with_its_deed(self):
        for outcome, kind, deed in ((WHOLE, "note", 2), (TORN, "half", 1), (BARE, "blank", 1)):
            chip = Chip(blank_image(6, 5), (DONE, DONE, outcome))
            shelf = Shelf(chip, 1)
            shelf.do(MADE)
            image = chip.image()
            self.assertEqual(kinds_in(image)[0][:3], ("head", kind, "blank"))
            self.assertEqual(listed(image), ((0, 1), (1, 2)))
            self.assertEqual(notes_with_flags(image)[-2:], [(1, 1, deed, 0), (1, 2, deed, 1)])
            self.assertEqual((shelf.bads, shelf.table(), chip.operations()), ((0,), MADE, 7))
            self.assertEqual(head_of(image, 1), ("head", 2, 1, (0,), (1, 1, 0, 0, 0, 0)))

    def test_an_end_note_that_fails(self):
        for outcome, kind, deed, operations in ((WHOLE, "note", 1, 4), (TORN, "half", 2, 8), (BARE, "blank", 2, 8)):
            chip = Chip(blank_image(6, 5), (DONE,) * 3 + (outcome,))
            shelf = Shelf(chip, 1)
            shelf.do(MADE)
            self.assertEqual(kinds_in(chip.image())[0][2], kind)
            self.assertEqual((notes_with_flags(chip.image())[-1][2], chip.operations()), (deed, operations))
            self.assertEqual((shelf.bads, shelf.table()), ((0,), MADE))

    def test_an_end_note_that_fails_as_one_block_too_many(self):
        for outcome, table in ((WHOLE, MADE), (TORN, ())):
            chip = Chip(blank_image(6, 5), (DONE,) * 3 + (outcome,))
            shelf = Shelf(chip, 0)
            self.assert_refused(WornOut(), shelf.do, MADE)
            left = chip.image()
            self.assertEqual((shelf.table(), shelf.bads, chip.operations()), (table, (0,), 4))
            for _ in range(3):
                self.assert_refused(WornOut(), shelf.do, ((C, None),))
            self.assertEqual((chip.image(), chip.operations()), (left, 4))
            self.assertIsNone(shelf.do(()))

    def test_lacking_ones_are_copied_ahead_of_the_next_deed(self):
        chip = Chip(blank_image(6, 5), (DONE,) * 3 + (WHOLE,))
        shelf = Shelf(chip, 1)
        shelf.do(MADE)
        self.assertEqual((shelf.space(), shelf.free(), shelf.reserve()), (12, 5, 1))
        shelf.do(((C, None),))
        image = chip.image()
        self.assertEqual(notes_with_flags(image), [(0, 1, 1, 0), (0, 2, 1, 1), (1, 1, 1, 2), (1, 2, 1, 2),
                                                   (1, 3, 2, 1)])
        self.assertEqual([each[4] for each in notes_in(image)], [A, ONE, A, ONE, C])

    def test_only_what_lives_is_lacking(self):
        chip = Chip(blank_image(6, 6), (DONE,) * 5 + (WHOLE,))
        shelf = Shelf(chip, 1)
        shelf.do(MADE)
        shelf.do(((A, None), (B, None)))
        shelf.do(((C, None),))
        self.assertEqual(notes_with_flags(chip.image())[4:], [(1, 1, 3, 1)])

    def test_the_copies_of_lacking_ones_fail(self):
        """Block 0 fails at the end note; block 1 at the second copy, which is then lacking in both."""
        chip = Chip(blank_image(7, 5), (DONE,) * 3 + (WHOLE,) + (DONE,) * 3 + (TORN,))
        shelf = Shelf(chip, 2)
        shelf.do(MADE)
        shelf.do(((C, None),))
        image = chip.image()
        self.assertEqual(kinds_in(image)[:3], (("head", "note", "note", "blank", "blank"),
                                               ("head", "note", "half", "blank", "blank"),
                                               ("head", "note", "note", "note", "blank")))
        self.assertEqual([each[4] for each in notes_in(image) if each[0] == 2], [ONE, A, C])
        self.assertEqual((shelf.bads, shelf.table()), ((0, 1), MADE))

    def test_an_erase_that_fails(self):
        chip = Chip(blank_image(6, 5), (BARE,))
        shelf = Shelf(chip, 1)
        shelf.do(MADE)
        self.assertEqual((listed(chip.image()), shelf.bads), (((1, 1),), (0,)))
        self.assertEqual(head_of(chip.image(), 1), ("head", 1, 1, (0,), (0, 1, 0, 0, 0, 0)))
        self.assertEqual([each[1] for each in chip.image()], [1, 1, 0, 0, 0, 0])

    def test_a_head_that_fails(self):
        for outcome, blocks in ((WHOLE, ((0, 1), (1, 2))), (TORN, ((1, 1),)), (BARE, ((1, 1),))):
            chip = Chip(blank_image(6, 5), (DONE, outcome))
            shelf = Shelf(chip, 1)
            shelf.do(MADE)
            self.assertEqual((listed(chip.image()), shelf.bads), (blocks, (0,)))
            self.assertEqual(notes_with_flags(chip.image()), [(1, 1, 1, 0), (1, 2, 1, 1)])

    def test_a_block_that_fails_amid_a_deed_when_it_is_begun(self):
        """Only a note that fails is written again: another block is taken, and the deed goes on."""
        notes = ((A, None), (B, None), (C, None), (("name", 0, "d"), None))
        for outcome in (WHOLE, TORN, BARE):
            for place in (5, 6):
                chip = Chip(blank_image(6, 5), (DONE,) * place + (outcome,))
                shelf = Shelf(chip, 1)
                shelf.do(notes)
                self.assertEqual(shelf.bads, (1,))
                self.assertEqual(notes_with_flags(chip.image()),
                                 [(0, 1, 1, 0), (0, 2, 1, 0), (0, 3, 1, 0), (2, 1, 1, 1)])

    def test_a_space_that_failures_leave(self):
        """F - R is always N - SPARE - 1 less the number of good blocks."""
        for outcome in (WHOLE, TORN, BARE):
            for place in range(12):
                chip = Chip(blank_image(8, 5), (DONE,) * place + (outcome,))
                shelf = Shelf(chip, 3)
                for number in range(3):
                    shelf.do(MADE)
                    good = [block for block, _ in listed(chip.image()) if block not in shelf.bads]
                    self.assertEqual(shelf.free() - shelf.reserve(), 4 - len(good))


class AnewTest(FlashCase):
    def rows(self, *last):
        return ((head(6, 1), note(1, 0, A, 1), note(1, 1, ONE, ("file", 20)), note(2, 1, B, None)),
                (head(6, 2),) + last)

    def test_begun_anew_ahead_of_the_first_deed_with_notes(self):
        copy = note(1, 2, A, 1)
        for last in ((), (copy,), (copy, note(1, 2, ONE, ("file", 20))), (note(3, 0, C, None),), (RAGGED, copy),
                     (copy, RAGGED)):
            chip = Chip(image_of(6, 5, *self.rows(*last)), ())
            shelf = Shelf(chip, 1)
            self.assertEqual(chip.operations(), 0)
            shelf.do(((C, None),))
            # An erase, a head, a note.
            self.assertEqual((chip.operations(), listed(chip.image())), (3, ((0, 1), (1, 2))))
            self.assertEqual(head_of(chip.image(), 1), ("head", 2, 1, (), (0, 1, 0, 0, 0, 0)))
            self.assertEqual(kinds_in(chip.image())[1], ("head", "note", "blank", "blank", "blank"))
            shelf.do(((C, None),))
            self.assertEqual(chip.operations(), 4)

    def test_not_begun_anew(self):
        for last in ((note(3, 1, C, None),), (note(1, 2, A, 1), drop(1)), (note(3, 2, C, None),),
                     (note(2, 2, C, None),),
                     (5,), (head(6, 9),)):
            chip = Chip(image_of(6, 5, *self.rows(*last)), ())
            shelf = Shelf(chip, 1)
            shelf.do(((C, None),))
            self.assertEqual((chip.operations(), chip.image()[1][1]), (1, 0))

    def test_the_start_of_its_head_is_told_by_others(self):
        for start, others, operations in ((2, 1, 1), (2, 2, 3), (1, 1, 3)):
            rows = ((head(6, 2, others), note(1, 1, C, None)), (head(6, 3, start),))
            chip = Chip(image_of(6, 5, *rows), ())
            Shelf(chip, 1).do(((C, None),))
            self.assertEqual(chip.operations(), operations)

    def test_a_known_bad_block_is_not_begun_anew(self):
        chip = Chip(image_of(6, 5, (head(6, 1), note(1, 1, C, None)), (head(6, 2, 1, (1,)),)), ())
        Shelf(chip, 1).do(((C, None),))
        self.assertEqual((listed(chip.image()), chip.operations()), (((0, 1), (1, 2), (2, 3)), 3))

    def test_a_block_that_fails_when_it_is_begun_anew(self):
        copy = note(1, 2, A, 1)
        for outcome in (WHOLE, BARE, ("fails", (BLANK << WIDTH) | BLANK)):
            chip = Chip(image_of(6, 6, *self.rows(copy)), (outcome,))
            shelf = Shelf(chip, 1)
            shelf.do(((C, None),))
            self.assertEqual(shelf.bads, (1,))
            self.assertEqual(table_of(chip.image()), ((A, 1), (B, None), (C, None), (ONE, ("file", 20))))
            givers = {each[4]: each[0] for each in counting(chip.image())}
            self.assertNotIn(1, [givers[A], givers[ONE]])
            self.assertEqual(shelf.live(), 2)

    def test_without_a_deed_nothing_is_begun_anew(self):
        image = image_of(6, 5, *self.rows())
        chip = Chip(image, ())
        shelf = Shelf(chip, 1)
        self.assert_refused(NotSound(), shelf.do, ((B, 9),))
        self.assertIsNone(shelf.do(()))
        self.assertEqual(chip.image(), image)


class RoomTest(FlashCase):
    """[C10]: what has room is written without WornOut, whatever blocks fail up to SPARE."""

    def fill(self, shelf, live):
        """Let so many keys live: names of one file, each deed within the room."""
        if live > 0:
            shelf.do(((("name", 0, "n0"), 1), (ONE, ("file", 0))))
        for number in range(1, live - 1):
            shelf.do(((("name", 0, "n" + str(number)), 1),))

    def write_often(self, many, size, spare, live, told):
        chip = Chip(blank_image(many, size), told)
        shelf = Shelf(chip, spare)
        self.fill(shelf, live)
        gone = tuple([(("name", 0, "z" + str(number)), None) for number in range(10, 10 + shelf.room - live)])
        gone = gone + ((("name", 0, "zz"), None),)
        for number in range(12):
            if len(gone) > 1:
                self.assertIsNone(shelf.do(gone[:-1]))
            self.assert_refused(NoRoom(), shelf.do, gone)
            self.assertEqual(shelf.live(), live)
        self.assertLessEqual(len(shelf.bads), spare)
        return chip

    def test_each_number_of_live_keys(self):
        for many, size, spare in ((5, 5, 0), (5, 5, 1), (7, 5, 3), (6, 8, 1), (12, 5, 2)):
            room = (many - spare - 2) * (size - 2)
            for live in [0] + list(range(2, room + 1)):
                self.write_often(many, size, spare, live, ())

    def test_with_blocks_that_fail(self):
        luck = seeded(71)
        for many, size, spare in ((5, 5, 1), (6, 5, 2), (7, 5, 3), (8, 6, 2)):
            room = (many - spare - 2) * (size - 2)
            for live in [0] + list(range(2, room + 1)):
                for _ in range(3):
                    told = [DONE] * luck.choice((20, 100, 200))
                    for _ in range(spare):
                        told[luck.randrange(len(told))] = ("fails", cut_mask(luck, WIDTH * luck.choice((1, size))))
                    chip = self.write_often(many, size, spare, live, tuple(told))
                    self.assertLessEqual(wear(chip.image()), 1)


class CleaningTest(FlashCase):
    def full(self, shelf, many):
        """Give a fresh shelf a file of so many links, then fill its blocks."""
        names = tuple([(("name", 0, "n" + str(k)), 1) for k in range(many)])
        shelf.do(names + ((ONE, ("file", 0)),))

    def test_one_drop_frees_all_blocks_that_have_nothing_left(self):
        chip = Chip(blank_image(5, 5), ())
        shelf = Shelf(chip, 0)
        self.full(shelf, 1)
        for number in range(10):
            shelf.do(length(number))
        self.assertEqual((start_of(chip.image()), shelf.free()), (1, 1))
        shelf.do(length(99))
        self.assertEqual((start_of(chip.image()), listed(chip.image())), (5, ((4, 5), (0, 6))))
        self.assertEqual(kinds_in(chip.image())[4], ("head", "note", "note", "drop", "blank"))

    def test_a_fresh_block_takes_all_givers_of_the_eldest_one(self):
        chip = Chip(blank_image(5, 5), ())
        shelf = Shelf(chip, 0)
        self.full(shelf, 6)
        for number in range(5):
            shelf.do(((B, None),))
        self.assertEqual((shelf.space(), shelf.live(), listed(chip.image())[-1]), (0, 7, (3, 4)))
        shelf.do(((B, None),))
        image = chip.image()
        # Block 4 takes three names and drops block 0, which takes three more and drops block 1, and so on.
        taken = {block: [each[4][-1] for each in notes_in(image) if each[0] == block] for block in (4, 0, 1, 2)}
        self.assertEqual(taken, {4: ["n0", "n1", "n2"], 0: ["n3", "n4", "n5"], 1: [1, "n0", "n1"], 2: ["b"]})
        self.assertEqual((start_of(image), listed(image)), (5, ((4, 5), (0, 6), (1, 7), (2, 8))))
        for block in (4, 0, 1):
            self.assertEqual(kinds_in(image)[block], ("head", "note", "note", "note", "drop"))
            self.assertEqual([each[3] for each in notes_in(image) if each[0] == block], [2, 2, 2])
        self.assertEqual(shelf.live(), 7)

    def test_nothing_lives(self):
        chip = Chip(blank_image(5, 5), ())
        shelf = Shelf(chip, 0)
        for _ in range(13):
            shelf.do(((B, None),))
        self.assertEqual(kinds_in(chip.image())[4], ("head", "drop", "note", "blank", "blank"))
        self.assertEqual(listed(chip.image()), ((4, 5),))
        self.assertEqual(shelf.space(), 9 + 1)

    def test_a_cleaning_that_fails(self):
        """The fresh block fails at each of its operations; what it copied already is copied out of it."""
        for place in range(20, 25):
            for outcome in (WHOLE, TORN, BARE):
                chip = Chip(blank_image(6, 5), (DONE,) * place + (outcome,))
                shelf = Shelf(chip, 1)
                self.full(shelf, 1)
                for number in range(11):
                    shelf.do(length(number))
                self.assertEqual((shelf.bads, shelf.live()), ((4,), 2))
                self.assertEqual(shelf.table(), ((("name", 0, "n0"), 1), (ONE, ("file", 10))))
                givers = {each[4]: each[0] for each in counting(chip.image())}
                self.assertNotIn(4, [givers[key] for key, _ in shelf.table()])

    def test_a_hundred_cleanings_in_a_row(self):
        """All blocks are listed, and the current one is full: no cleaning can begin."""
        rows = [(head(5, 1), note(1, 1, ONE, ("file", 0)), note(2, 1, B, None), note(3, 1, C, None), HALF)]
        for order in range(2, 6):
            rows.append((head(5, order), note(order * 3, 1, ("name", 0, "n" + str(order)), 1), HALF, HALF, HALF))
        image = image_of(5, 5, *rows)
        chip = Chip(image, ())
        shelf = Shelf(chip, 0)
        self.assertEqual((shelf.live(), shelf.space(), shelf.free(), shelf.reserve()), (5, -3, 0, 1))
        for _ in range(2):
            self.assert_refused(WornOut(), shelf.do, ((B, None),))
            self.assertEqual(chip.image(), image)

    def test_no_drop_that_frees_nothing(self):
        """The eldest block has one giver more than a fresh one takes: no drop yet, though a page is left for it."""
        names = [note(2, 2, ("name", 0, name), 1) for name in "abc"]
        eldest = (head(5, 1), note(1, 1, ONE, ("file", 0)), *names)
        others = [(head(5, order), note(order + 1, 1, ("name", 0, "z"), None), RAGGED, RAGGED) for order in (2, 3)]
        chip = Chip(image_of(5, 5, eldest, *others), ())
        shelf = Shelf(chip, 0)
        self.assertEqual((shelf.live(), shelf.space(), shelf.free(), shelf.reserve()), (4, 3, 2, 1))
        shelf.do(length(3) + ((("piece", 1, 0), (1,)), (("piece", 1, 1), None), (("piece", 1, 2), None)))
        self.assertEqual(kinds_in(chip.image())[3], ("head", "note", "note", "note", "blank"))
        self.assertEqual([each[4] for each in notes_in(chip.image()) if each[0] == 3], [ONE, A, B])
        # The second fresh block takes the last one, and what it can of the first.
        self.assertEqual([each[4] for each in notes_in(chip.image()) if each[0] == 4], [C, ONE, A])
        self.assertEqual((kinds_in(chip.image())[4][4], start_of(chip.image())), ("drop", 4))

    def test_a_current_block_that_is_bad_and_no_free_one(self):
        """Nothing can be copied or dropped there, so no cleaning makes space."""
        last = (head(5, 5, 1, (4,)), note(5, 1, B, None))
        for eldest in ((note(1, 1, C, None),), (note(1, 1, ONE, ("file", 0)), note(2, 1, A, 1))):
            rows = [(head(5, 1),) + eldest] + [(head(5, order), note(3, 2, C, None)) for order in range(2, 5)]
            image = bad(image_of(5, 5, *rows, last), 4)
            chip = Chip(image, ())
            shelf = Shelf(chip, 1)
            self.assertEqual((shelf.bads, shelf.free(), shelf.reserve(), shelf.space()), ((4,), 0, 1, -3))
            self.assert_refused(WornOut(), shelf.do, ((B, None),))
            self.assertEqual((chip.operations(), chip.image()), (0, image))

    def test_no_page_is_left_for_a_drop(self):
        """All blocks are listed, the eldest ones could be dropped, but the current one is full."""
        rows = [(head(5, order),) + (RAGGED,) * 4 for order in range(1, 5)]
        rows.append((head(5, 5), note(1, 1, B, None), RAGGED, RAGGED, RAGGED))
        image = image_of(5, 5, *rows)
        chip = Chip(image, ())
        shelf = Shelf(chip, 0)
        self.assert_refused(WornOut(), shelf.do, ((B, None),))
        self.assertEqual((chip.image(), shelf.free(), shelf.space()), (image, 0, -3))
        # With a page left a drop frees them all.
        chip = Chip(with_page(image, 4, 4, BLANK), ())
        shelf = Shelf(chip, 0)
        shelf.do(((B, None),))
        self.assertEqual((listed(chip.image()), start_of(chip.image())), (((4, 5), (0, 6)), 5))

    def test_counts_that_would_end(self):
        for count, right in ((LAST_COUNT, True), (LAST_COUNT + 1, False), (GREATEST, False)):
            for image in (image_of(5, 6, (head(5, count),)), image_of(5, 6, (head(5, count, count),)),
                          image_of(5, 6, (drop(count),)), image_of(5, 6, (head(5, 1), note(count, 1, B, None))),
                          image_of(5, 6, (head(5, 1), note(count, 0, B, None)))):
                chip = Chip(image, ())
                shelf = Shelf(chip, 0)
                if right:
                    shelf.do(MADE)
                    self.assertEqual(shelf.table(), MADE)
                else:
                    self.assert_refused(WornOut(), shelf.do, MADE)
                    self.assertEqual((chip.operations(), chip.image()), (0, image))
        # What is not listed does not count.
        image = image_of(5, 6, (note(GREATEST, 1, B, None), HALF), (head(5, 2),))
        Shelf(Chip(image, ()), 0).do(MADE)


if __name__ == "__main__":
    unittest.main()
