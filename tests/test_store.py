"""Stores by hand: [E1] to [E3] and [E7], as flashtrees/store.py tells it."""

import unittest

from flashtrees.chip import Chip, blank_image
from flashtrees.errors import InvalidDeed, NoRoom, NotOrderly, PowerCut, Refused, WornOut
from flashtrees.pages import BLANK
from flashtrees.reading import notes_in, table_of
from flashtrees.store import Store, opened_tree, played
from flashtrees.trees import EMPTY, behind
from tests.images import HALF, head, image_of, note
from tests.support import FlashCase
from tests.values import GREATEST

A, B, C, D = ("a",), ("b",), ("c",), ("d",)
DONE = ("done",)
NOT_ORDERLY = image_of(5, 5, (head(5, 1),), (head(5, 1),))
NOT_SOUND = image_of(5, 5, (head(5, 1), note(1, 1, ("name", 0, "a"), 1)))


def after(*deeds):
    tree = EMPTY
    for deed in deeds:
        tree = behind(tree, deed)
    return tree


def told(store):
    return store.waiting, store.written, store.done


def image_with(*pairs, size=12):
    """An image the one listed block of which has a deed of these notes."""
    row = [note(1, 1 if index == len(pairs) - 1 else 0, key, value) for index, (key, value) in enumerate(pairs)]
    return image_of(5, size, (head(5, 1), *row))


class OpenTest(FlashCase):
    def test_blank_chips(self):
        for many in range(5, 13):
            for size in range(5, 13):
                for spare in range(min(3, many - 4) + 1):
                    chip = Chip(blank_image(many, size), ())
                    store = Store(chip, spare, 0)
                    self.assertEqual((store.room, store.tree(), store.live()),
                                     ((many - spare - 2) * (size - 2), EMPTY, 0))
                    self.assertEqual((told(store), chip.operations()), ((0, 0, 0), 0))

    def test_when_it_is_refused(self):
        for image in (NOT_ORDERLY, NOT_SOUND):
            self.assert_refused(NotOrderly(), Store, Chip(image, ()), 0, 0)
            self.assertIsNone(opened_tree(image))
            self.assert_refused(NotOrderly(), played, image, (), 0, 0, ())
            chip = Chip(image, (("cut", BLANK),))
            self.assert_refused(PowerCut(), chip.erase, 0)
            self.assert_refused(PowerCut(), Store, chip, 0, 0)

    def test_the_tree_that_the_table_tells(self):
        pairs = ((("name", 0, "a"), 9), (("name", 9, "x"), 4), (("name", 9, "y"), 4), (("node", 9), ("folder", 0)),
                 (("node", 4), ("file", 18)), (("piece", 4, 1), (7, 8)))
        file = ("file", 0, (0,) * 16 + (7, 8))
        tree = ("folder", (("a", ("folder", (("x", file), ("y", file)))),))
        image = image_with(*pairs)
        store = Store(Chip(image, ()), 0, 0)
        self.assertEqual((store.tree(), opened_tree(image), store.live()), (tree, tree, 6))
        self.assertEqual((store.names(()), store.names(A), store.names(("a", "x")), store.names(B)),
                         (A, ("x", "y"), None, None))
        self.assertEqual(store.cells(("a", "y"), 15, 2), (0, 7))
        self.assertEqual(store.cells(("a", "y"), 17, 256), (8,))
        self.assertEqual((store.cells(("a", "y"), 18, 9), store.cells(("a", "y"), 256, 256),
                          store.cells(("a", "x"), 0, 0)),
                         ((), (), ()))
        self.assertEqual((store.cells(A, 0, 1), store.cells((), 0, 1), store.cells(("a", "x", "y"), 0, 1)), (None,) * 3)

    def test_read_alone(self):
        store = Store(Chip(blank_image(5, 5), ()), 0, 0)
        for name in ("room", "waiting", "done", "written"):
            with self.assertRaises(AttributeError):
                setattr(store, name, 1)


class DeedTest(FlashCase):
    def test_numbers_of_made_nodes(self):
        """One above the greatest number that was read or given, to nodes removed again, too."""
        rows = ((head(5, 1), note(1, 1, ("name", 0, "a"), None), note(2, 0, ("node", 7), ("file", 0)),
                 note(3, 1, ("name", 40, "z"), None)),)
        chip = Chip(image_of(5, 12, *rows), ())
        store = Store(chip, 0, 0)
        store.do(("all", (("file", A), ("file", B), ("remove", A))))
        self.assertEqual(notes_in(chip.image())[-2:][0][4:], (("name", 0, "b"), 42))
        store.do(("file", C))
        self.assertEqual(dict(table_of(chip.image()))[("name", 0, "c")], 43)
        # What is refused or has no room gives no number.
        self.assert_refused(Refused("exists"), store.do, ("all", (("file", D), ("file", D))))
        self.assert_refused(NoRoom(), store.do, ("all", (("file", D), ("write", B, 0, (1,) * 256),
                                                           ("write", C, 0, (1,) * 256))))
        store.do(("file", D))
        self.assertEqual(dict(table_of(chip.image()))[("name", 0, "d")], 44)

    def test_refused_ahead_of_no_room(self):
        store = Store(Chip(blank_image(5, 5), ()), 0, 60)
        store.do(("file", A))
        long = ("write", A, 0, (1,) * 256)
        self.assert_refused(NoRoom(), store.do, long)
        self.assert_refused(Refused("missing"), store.do, ("all", (long, ("remove", B))))
        self.assertEqual((store.why_not(long), store.why_not(("remove", B)), store.why_not(("remove", A))),
                         ("no room", "missing", None))
        self.assertEqual((told(store), store.tree()), ((2, 0, 1), after(("file", A))))

    def test_room(self):
        """ROOM is 9: live keys up to 6 behind each deed that makes them more."""
        store = Store(Chip(blank_image(5, 5), ()), 0, 60)
        for path in (A, B, C):
            store.do(("file", path))
        self.assertEqual(store.live(), 6)
        for deed in (("file", D), ("link", A, D), ("write", A, 0, (1,))):
            self.assertEqual(store.why_not(deed), "no room")
        # L and the notes up to ROOM, and no more live keys.
        self.assertIsNone(store.why_not(("all", (("remove", A), ("cut", B, 1), ("cut", C, 1)))))
        self.assertEqual(store.why_not(("all", (("cut", A, 1), ("remove", A), ("file", A), ("cut", B, 1),
                                                ("cut", C, 1)))),
                         "no room")
        store.do(("all", (("remove", A), ("write", B, 0, (1,)))))
        self.assertEqual(store.live(), 5)
        self.assertIsNone(store.why_not(("link", B, D)))
        store.do(("link", B, D))
        self.assertEqual((store.live(), store.why_not(("link", B, A))), (6, "no room"))
        for path in (D, B, C):
            self.assertEqual(store.do(("remove", path)), 1)

    def test_no_room_without_notes(self):
        pairs = [(("name", 0, "n" + str(k)), 1) for k in range(8)] + [(("node", 1), ("file", 3))]
        store = Store(Chip(image_with(*pairs), ()), 0, 0)
        self.assertEqual((store.room, store.live(), store.why_not(("cut", ("n1",), 3))), (30, 9, None))
        small = Store(Chip(image_of(6, 5, (head(6, 1), note(1, 0, *pairs[0]), note(1, 0, *pairs[1]),
                                           note(1, 0, *pairs[2])),
                                    (head(6, 2), note(1, 0, *pairs[3]), note(1, 0, *pairs[4]), note(1, 0, *pairs[5])),
                                    (head(6, 3), note(1, 1, *pairs[8]))), ()), 2, 0)
        self.assertEqual((small.room, small.live()), (6, 7))
        for deed in (("cut", ("n1",), 3), ("remove", ("n1",))):
            self.assertEqual(small.why_not(deed), "no room")
            self.assert_refused(NoRoom(), small.do, deed)
        self.assertEqual(told(small), (0, 0, 0))

    def test_held(self):
        for held in range(8):
            chip = Chip(blank_image(6, 12), ())
            store = Store(chip, 0, held)
            waiting, written, queue = 0, 0, []
            for deed, many in ((("file", A), 2), (("cut", A, 0), 0), (("cut", A, 9), 1), (("file", B), 2),
                               (("cut", B, 0), 0),
                               (("link", A, C), 1), (("remove", A), 1), (("cut", B, 0), 0)):
                self.assertEqual(store.do(deed), many)
                queue.append(many)
                while sum(queue) > held:
                    queue.pop(0)
                    written += 1
                self.assertEqual(told(store)[:2], (sum(queue), written))
            self.assertEqual((store.sync(), store.waiting, store.written, store.done), (8 - written, 0, 8, 8))
            self.assertEqual((store.sync(), opened_tree(chip.image())), (0, store.tree()))

    def test_deeds_without_notes_need_no_operation(self):
        chip = Chip(blank_image(5, 5), (("cut", 0),))
        store = Store(chip, 0, 0)
        self.assertEqual(store.do(("all", (("file", A), ("remove", A)))), 0)
        self.assertEqual((told(store), store.sync(), told(store), chip.operations()), ((0, 0, 1), 1, (0, 1, 1), 0))

    def test_an_all_is_one_deed(self):
        deed = ("all", (("folder", A), ("file", ("a", "x")), ("write", ("a", "x"), 0, (1, 2)), ("link", ("a", "x"), B)))
        chip = Chip(blank_image(8, 5), ())
        Store(chip, 0, 0).do(deed)
        self.assertGreater(chip.operations(), 8)
        for many in range(chip.operations()):
            for mask in (0, BLANK, 1 << 521):
                image, done, ended = played(blank_image(8, 5), (DONE,) * many + (("cut", mask),), 0, 0, (deed,))
                whole = many == chip.operations() - 1 and mask == 0
                self.assertEqual((opened_tree(image), done, ended), (after(deed) if whole else EMPTY, (), "cut"))


class PauseTest(FlashCase):
    def store(self, held=0):
        store = Store(Chip(blank_image(6, 12), ()), 0, held)
        store.pause()
        for path in (A, B, C):
            store.do(("file", path))
        return store

    def test_none_is_written_in_a_pause(self):
        store = self.store()
        self.assertEqual(told(store), (6, 0, 3))
        self.assertEqual((store.resume(), told(store)), (3, (0, 3, 3)))
        self.assertEqual((store.do(("file", D)), told(store)), (2, (0, 4, 4)))

    def test_but_by_a_sync(self):
        store = self.store()
        self.assertEqual((store.sync(), told(store)), (3, (0, 3, 3)))
        store.do(("file", D))
        self.assertEqual((told(store), store.resume(), told(store)), ((2, 3, 4), 1, (0, 4, 4)))

    def test_pauses_within_pauses(self):
        store = self.store(3)
        self.assertIsNone(store.pause())
        self.assertEqual((store.resume(), told(store)), (0, (6, 0, 3)))
        store.do(("file", D))
        self.assertEqual((store.resume(), told(store)), (3, (2, 3, 4)))

    def test_without_a_pause(self):
        store = Store(Chip(blank_image(6, 12), ()), 0, 0)
        self.assertEqual((store.resume(), store.resume()), (0, 0))
        store.do(("file", A))
        self.assertEqual(told(store), (0, 1, 1))
        store.pause()
        store.do(("file", B))
        self.assertEqual((told(store), store.resume()), ((2, 1, 2), 1))


CALLS = (("do", ("file", D)), ("sync",), ("why_not", ("file", D)), ("tree",), ("names", ()), ("cells", A, 0, 1),
         ("live",),
         ("pause",), ("resume",))


class CutTest(FlashCase):
    def test_within_a_deed(self):
        chip = Chip(blank_image(6, 12), (DONE,) * 5 + (("cut", 0),))
        store = Store(chip, 0, 3)
        store.do(("file", A))
        self.assertEqual((store.do(("file", B)), told(store)), (2, (2, 1, 2)))
        self.assertEqual(chip.operations(), 4)
        self.assert_refused(PowerCut(), store.do, ("file", C))
        # Just ahead of the operation that was cut; the deed amid which it went is among those done.
        self.assertEqual((told(store), store.room), ((4, 1, 3), 40))
        self.assertEqual(opened_tree(chip.image()), after(("file", A), ("file", B)))
        for name, *passed in CALLS:
            self.assert_refused(PowerCut(), getattr(store, name), *passed)
        self.assertEqual(told(store), (4, 1, 3))

    def test_within_a_sync_and_a_resume(self):
        for name, done in (("sync", 2), ("resume", 2)):
            chip = Chip(blank_image(6, 12), (DONE,) * 4 + (("cut", BLANK),))
            store = Store(chip, 0, 0)
            store.pause()
            store.do(("file", A))
            store.do(("file", B))
            self.assert_refused(PowerCut(), getattr(store, name))
            self.assertEqual((told(store), opened_tree(chip.image())), ((2, 1, 2), after(("file", A))))
            for call, *passed in CALLS:
                self.assert_refused(PowerCut(), getattr(store, call), *passed)

    def test_power_that_is_gone_with_nothing_waiting(self):
        chip = Chip(blank_image(6, 12), (DONE,) * 4 + (("cut", 0),))
        store = Store(chip, 0, 0)
        store.do(("file", A))
        self.assert_refused(PowerCut(), chip.erase, 5)
        for name, *passed in CALLS:
            self.assert_refused(PowerCut(), getattr(store, name), *passed)
        self.assertEqual((told(store), store.room), ((0, 1, 1), 40))

    def test_power_that_is_gone_ahead_of_refusals(self):
        chip = Chip(blank_image(6, 5), (("cut", 0),))
        store = Store(chip, 0, 0)
        self.assert_refused(PowerCut(), store.do, ("file", A))
        for deed in (("file", ()), ("write", A, 0, (1,) * 256), ("remove", B)):
            self.assert_refused(PowerCut(), store.do, deed)
            self.assert_refused(PowerCut(), store.why_not, deed)


class WornTest(FlashCase):
    def worn(self, outcome, held=0):
        chip = Chip(blank_image(6, 12), (DONE,) * 4 + (outcome,))
        store = Store(chip, 0, held)
        store.do(("file", A))
        store.do(("cut", A, 0))
        self.assert_refused(WornOut(), store.do, ("link", A, B))
        return chip, store

    def test_what_stays(self):
        for outcome, tree in ((("fails", 0), after(("file", A), ("link", A, B))),
                              (("fails", BLANK), after(("file", A)))):
            chip, store = self.worn(outcome)
            left, now = chip.image(), after(("file", A), ("link", A, B))
            self.assertEqual((told(store), store.tree(), opened_tree(left)), ((1, 2, 3), now, tree))
            for deed in (("file", D), ("cut", A, 0), ("remove", B)):
                self.assert_refused(WornOut(), store.do, deed)
            self.assert_refused(Refused("exists"), store.do, ("file", B))
            self.assert_refused(NoRoom(), store.do, ("all", (("write", A, 0, (1,) * 256),) + tuple(
                [job for name in "wxyz" for job in (("file", (name,)), ("write", (name,), 0, (1,) * 99))][:7])))
            for call in (store.sync, store.resume):
                self.assert_refused(WornOut(), call)
            self.assertEqual((told(store), chip.image(), store.tree(), store.names(())),
                             ((1, 2, 3), left, now, ("a", "b")))
            self.assertEqual((store.why_not(("file", D)), store.live(), store.cells(B, 0, 9)), (None, 3, ()))

    def test_a_pause_goes_on(self):
        chip = Chip(blank_image(6, 12), (("fails", 0),))
        store = Store(chip, 0, 0)
        store.pause()
        store.pause()
        store.do(("file", A))
        self.assertEqual(store.resume(), 0)
        # The pause is ended nevertheless.
        self.assert_refused(WornOut(), store.resume)
        self.assertEqual(told(store), (2, 0, 1))
        self.assert_refused(WornOut(), store.resume)
        self.assertIsNone(store.pause())
        self.assert_refused(WornOut(), store.do, ("file", B))
        self.assertEqual((told(store), store.tree()), ((2, 0, 1), after(("file", A))))

    def test_a_sync_that_wears_out(self):
        chip = Chip(blank_image(6, 12), (DONE,) * 5 + (("fails", BLANK),))
        store = Store(chip, 0, 60)
        for path in (A, B, C):
            store.do(("file", path))
        self.assert_refused(WornOut(), store.sync)
        self.assertEqual((told(store), opened_tree(chip.image())), ((4, 1, 3), after(("file", A))))
        self.assert_refused(WornOut(), store.sync)
        self.assertEqual(told(store), (4, 1, 3))

    def test_counts_that_would_end(self):
        """The deed waits, but none is written any more."""
        for image in (image_of(6, 6, (head(6, 2 ** 32 - 9999),)), image_of(6, 6, (head(6, 1, 1, (1,)),))):
            chip = Chip(image, ())
            store = Store(chip, 0, 2)
            store.do(("file", A))
            self.assert_refused(WornOut(), store.do, ("file", B))
            self.assertEqual((told(store), chip.image(), store.names(())), ((4, 0, 2), image, ("a", "b")))

    def test_numbers_that_would_end(self):
        """FIRST above 2^32 - 9: other deeds go on, and nothing changes."""
        for first in (2 ** 32 - 9, 2 ** 32 - 8, 2 ** 32):
            node = (("node", first - 1), ("file", 3))
            chip = Chip(image_with((("name", 0, "a"), first - 1), node), ())
            store = Store(chip, 0, 0)
            if first > 2 ** 32 - 9:
                left = chip.image()
                self.assert_refused(Refused("exists"), store.do, ("file", A))
                self.assert_refused(NoRoom(), store.do, ("all", (("file", B), ("write", A, 0, (1,) * 256),
                                                                 ("write", B, 0, (1,) * 256))))
                for deed in (("file", B), ("folder", B), ("all", (("cut", A, 1), ("file", B), ("remove", B)))):
                    self.assertIsNone(store.why_not(deed))
                    self.assert_refused(WornOut(), store.do, deed)
                self.assertEqual((told(store), chip.image(), store.sync()), ((0, 0, 0), left, 0))
                self.assertEqual((store.do(("link", A, B)), store.do(("remove", A)), store.do(("cut", B, 1))),
                                 (1, 1, 1))
                self.assertEqual(opened_tree(chip.image()), store.tree())
            else:
                store.do(("all", tuple([("folder", (name,)) for name in "bcdefghi"])))
                self.assertEqual(max([value for key, value in table_of(chip.image()) if key[0] == "name"]),
                                 GREATEST - 1)
                self.assert_refused(WornOut(), store.do, ("folder", ("z",)))

    def test_played(self):
        deeds = (("file", A), ("file", A), ("link", A, B), ("write", A, 0, (1,) * 256), ("remove", A))
        image, done, ended = played(blank_image(5, 5), (), 0, 60, deeds)
        self.assertEqual((opened_tree(image), done, ended), (after(deeds[0], deeds[2], deeds[4]), (0, 2, 4), "synced"))
        # The operation that goes wrong is the note of the link, then an end note in the sync.
        for held, many, done_here, kept in ((0, 4, (0,), deeds[:1]), (3, 4, (0, 2, 4), deeds[:1]),
                                            (60, 3, (0, 2, 4), ())):
            for outcome, word in ((("fails", BLANK), "worn out"), (("cut", BLANK), "cut")):
                image, done, ended = played(blank_image(5, 5), (DONE,) * many + (outcome,), 0, held, deeds)
                self.assertEqual((done, ended, opened_tree(image)), (done_here, word, after(*kept)))

    def test_deeds_are_looked_at_ahead_of_all(self):
        for image in (NOT_ORDERLY, blank_image(5, 5)):
            for told in ((), (("cut", 0),), (("fails", 0),)):
                self.assert_refused(InvalidDeed(7), played, image, told, 0, 0, (("file", A), ("file", B), 7, None))

    def test_played_stops_at_the_first_worn_out(self):
        node = (("node", GREATEST), ("file", 3))
        image = image_with((("name", 0, "a"), GREATEST), node)
        self.assertEqual(played(image, (), 0, 0, (("cut", A, 1), ("file", B), ("cut", A, 2)))[1:], ((0,), "worn out"))
        self.assertEqual(played(image, (), 0, 0, ()), (image, (), "synced"))

    def test_half_pages_tell_nothing(self):
        self.assertEqual(opened_tree(image_of(5, 5, (HALF, head(5, 1), HALF), (HALF,) * 5)), EMPTY)


if __name__ == "__main__":
    unittest.main()
