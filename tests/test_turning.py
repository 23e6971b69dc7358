"""Tables and what deeds turn in them: [D3] to [D5], as flashtrees/turning.py tells it."""

import unittest

from flashtrees.errors import InvalidNumber, NotSound, Refused
from flashtrees.trees import EMPTY, behind, is_tree, refusal
from flashtrees.turning import is_sound, live_keys, notes_for, table_behind, table_for, tree_told
from tests.models import some_deed
from tests.support import FlashCase, seeded
from tests.tables import TableByHand, wild_table
from tests.values import GOOD_TREES, GREATEST

A, B, C = ("name", 0, "a"), ("name", 0, "b"), ("name", 0, "c")
FOLDER = ("folder", 0)
FIRST = 100


def table(*pairs):
    return tuple(sorted(pairs, key=lambda pair: pair[0]))


def way(many, last):
    """Folders 1, 2 .. one within the other, MANY names, the last one leading to a node of this kind."""
    pairs = [(("name", number, "x"), number + 1) for number in range(many)]
    pairs += [(("node", number), FOLDER) for number in range(1, many)] + [(("node", many), last)]
    return table(*pairs)


def file_of(length, *pieces):
    """The table of one file, 1, named a."""
    return table((A, 1), (("node", 1), ("file", length)), *[(("piece", 1, index), cells) for index, cells in pieces])


def sound_tables(luck, many):
    """Wild tables that are sound."""
    found = []
    while len(found) < many:
        wild = wild_table(luck)
        if TableByHand(wild).is_sound:
            found.append(wild)
    return found


class SoundTest(FlashCase):
    def test_no_keys(self):
        self.assertIs(is_sound(()), True)
        self.assertEqual((tree_told(()), live_keys(())), (EMPTY, ()))

    def test_each_reached_number_has_a_node(self):
        self.assertIs(is_sound(table((A, 1))), False)
        self.assertIs(is_sound(table((A, None))), True)
        self.assertIs(is_sound(table((("name", 7, "a"), 1))), True)
        self.assertIs(is_sound(table((A, 1), (("node", 2), FOLDER))), False)
        inner = table((A, 1), (("name", 1, "x"), 2), (("node", 1), FOLDER))
        self.assertIs(is_sound(inner), False)
        self.assertIs(is_sound(inner + ((("node", 2), ("file", 0)),)), True)

    def test_names_of_files_reach_nothing(self):
        wild = table((A, 1), (("name", 1, "x"), 2), (("node", 1), ("file", 0)))
        self.assertIs(is_sound(wild), True)
        self.assertEqual(live_keys(wild), (A, ("node", 1)))

    def test_a_folder_has_one_name(self):
        two = table((A, 1), (B, 1), (("node", 1), FOLDER))
        self.assertIs(is_sound(two), False)
        self.assertIs(is_sound(table((A, 1), (B, 1), (("node", 1), ("file", 0)))), True)
        self.assertIs(is_sound(table((A, 1), (B, None), (("node", 1), FOLDER))), True)
        self.assertIs(is_sound(table((A, 1), (("name", 9, "b"), 1), (("node", 1), FOLDER))), True)
        self.assertIs(is_sound(table((A, 1), (("name", 2, "b"), 1), (("node", 1), FOLDER), (("node", 2), FOLDER))),
                      True)
        circle = table((A, 1), (("name", 1, "x"), 2), (("name", 2, "x"), 1), (("node", 1), FOLDER),
                       (("node", 2), FOLDER))
        self.assertIs(is_sound(circle), False)
        itself = table((A, 1), (("name", 1, "x"), 1), (("node", 1), FOLDER))
        self.assertIs(is_sound(itself), False)
        apart = table((("name", 1, "x"), 1), (("node", 1), FOLDER))
        self.assertIs(is_sound(apart), True)
        self.assertEqual(live_keys(apart), ())

    def test_ways_of_up_to_six_names(self):
        for many in range(1, 10):
            for last in (FOLDER, ("file", 3)):
                self.assertIs(is_sound(way(many, last)), many <= 6)
        short = table((("name", 0, "y"), 7))
        self.assertIs(is_sound(table(*way(7, ("file", 1)), *short)), False)
        self.assertIs(is_sound(table(*way(6, ("file", 1)), (A, 6))), True)

    def test_pieces_within_the_file(self):
        for length, index, many, right in (
                (0, 0, 1, False), (1, 0, 1, True), (1, 0, 2, False), (16, 0, 16, True), (16, 1, 1, False),
                (17, 1, 1, True), (256, 15, 16, True), (255, 15, 16, False), (255, 15, 15, True)):
            self.assertIs(is_sound(file_of(length, (index, (7,) * many))), right)
            self.assertIs(is_sound(file_of(length, (index, (0,) * many))), right)
        self.assertIs(is_sound(file_of(0, (3, None))), True)
        self.assertIs(is_sound(table((("node", 1), ("file", 0)), (("piece", 1, 0), (7,)))), True)
        self.assertIs(is_sound(table((A, 1), (("node", 1), FOLDER), (("piece", 1, 0), (7,)))), True)
        self.assertIs(is_sound(file_of(9, (0, (1,))) + ((("piece", 2, 5), (7,)),)), True)

    def test_wild_tables_by_hand(self):
        luck, faults = seeded(31), []
        for _ in range(4000):
            wild = wild_table(luck)
            hand = TableByHand(wild)
            self.assertIs(is_sound(wild), hand.is_sound, wild)
            faults += list(hand.faults()) or ["none"]
            if hand.is_sound:
                self.assertEqual(live_keys(wild), hand.live(), wild)
                tree = tree_told(wild)
                self.assertIs(is_tree(tree), True)
                self.assertEqual(tree, hand.model().plain().tree())
            else:
                for call in (tree_told, live_keys):
                    self.assert_refused(NotSound(), call, wild)
                self.assert_refused(NotSound(), table_behind, wild, ())
                self.assert_refused(NotSound(), notes_for, wild, FIRST, ("folder", ("a",)))
        for fault in ("none", "no node", "two names", "long piece"):
            self.assertGreater(faults.count(fault), 50)

    def test_live_keys_alone_tell_the_same(self):
        luck = seeded(32)
        for wild in sound_tables(luck, 500):
            live = live_keys(wild)
            some = tuple([pair for pair in wild if pair[0] in live or luck.random() < 0.5])
            self.assertIs(is_sound(some), True)
            self.assertEqual((tree_told(some), live_keys(some)), (tree_told(wild), live))


class TableForTest(unittest.TestCase):
    def test_trees(self):
        for tree in GOOD_TREES:
            made = table_for(tree)
            self.assertEqual(tree_told(made), tree)
            self.assertEqual(live_keys(made), tuple([key for key, _ in made]))

    def test_numbers_in_the_order_in_which_nodes_are_met_first(self):
        file, other = ("file", 0, (0, 5)), ("file", 1, (0,) * 17)
        tree = ("folder", (("a", file), ("b", ("folder", (("x", other), ("y", file)))), ("c", ("folder", ()))))
        self.assertEqual(table_for(tree), table(
            (A, 1), (B, 2), (C, 4), (("name", 2, "x"), 3), (("name", 2, "y"), 1), (("node", 1), ("file", 2)),
            (("node", 2), FOLDER), (("node", 3), ("file", 17)), (("node", 4), FOLDER), (("piece", 1, 0), (0, 5))))
        self.assertEqual(table_for(EMPTY), ())

    def test_wild_trees(self):
        luck = seeded(33)
        for wild in sound_tables(luck, 300):
            tree = tree_told(wild)
            self.assertEqual(tree_told(table_for(tree)), tree)


class NotesTest(FlashCase):
    def assert_notes(self, before, deed, *pairs):
        self.assertEqual(notes_for(before, FIRST, deed), tuple(pairs))

    def test_each_deed(self):
        one = file_of(20, (0, (1,) * 16), (1, (2, 3)))
        self.assert_notes((), ("folder", ("a",)), (A, FIRST), (("node", FIRST), FOLDER))
        self.assert_notes((), ("file", ("a",)), (A, FIRST), (("node", FIRST), ("file", 0)))
        self.assert_notes(one, ("write", ("a",), 18, (9,)), (("piece", 1, 1), (2, 3, 9)))
        self.assert_notes(one, ("write", ("a",), 15, (0, 0)), (("piece", 1, 0), (1,) * 15), (("piece", 1, 1), (0, 3)))
        self.assert_notes(one, ("write", ("a",), 32, (0, 4)), (("node", 1), ("file", 34)), (("piece", 1, 2), (0, 4)))
        self.assert_notes(one, ("write", ("a",), 30, (0,)), (("node", 1), ("file", 31)))
        self.assert_notes(one, ("write", ("a",), 16, (0, 0)), (("piece", 1, 1), None))
        self.assert_notes(one, ("cut", ("a",), 17), (("node", 1), ("file", 17)), (("piece", 1, 1), (2,)))
        self.assert_notes(one, ("cut", ("a",), 0), (("node", 1), ("file", 0)), (("piece", 1, 0), None),
                          (("piece", 1, 1), None))
        self.assert_notes(one, ("cut", ("a",), 256), (("node", 1), ("file", 256)))
        self.assert_notes(one, ("link", ("a",), ("b",)), (B, 1))
        self.assert_notes(one, ("remove", ("a",)), (A, None))
        self.assert_notes(one, ("move", ("a",), ("b",)), (A, None), (B, 1))

    def test_deeds_that_change_nothing_have_none(self):
        one = file_of(3, (0, (1, 2)))
        for deed in (("write", ("a",), 0, ()), ("write", ("a",), 1, (2, 0)), ("cut", ("a",), 3),
                     ("move", ("a",), ("a",)), ("all", (("file", ("b",)), ("remove", ("b",)))),
                     ("all", (("link", ("a",), ("b",)), ("move", ("b",), ("a",))))):
            self.assert_notes(one, deed)

    def test_made_nodes_are_numbered_in_the_order_in_which_they_are_made(self):
        deeds = (("file", ("b",)), ("folder", ("a",)), ("remove", ("b",)), ("file", ("a", "x")), ("file", ("b",)))
        self.assert_notes((), ("all", deeds), (A, FIRST + 1), (B, FIRST + 3), (("name", FIRST + 1, "x"), FIRST + 2),
                          (("node", FIRST + 1), FOLDER), (("node", FIRST + 2), ("file", 0)),
                          (("node", FIRST + 3), ("file", 0)))

    def test_first_is_above_all_numbers(self):
        for pairs, greatest in (((), 0), (((A, None),), 0), (((("name", 7, "a"), None),), 7),
                                (((("node", 9), FOLDER),), 9),
                                (((("piece", 8, 15), (65535,)),), 8), (((("name", 2, "z"), 5),), 5)):
            for first in (greatest - 1, greatest, -1, 0, True, "9", GREATEST - 7):
                if first != 1:
                    self.assert_refused(InvalidNumber(first), notes_for, pairs, first, ("folder", ("q",)))
            for first in (greatest + 1, greatest + 2, GREATEST - 8):
                notes = notes_for(pairs, first, ("folder", ("q",)))
                self.assertEqual(notes, ((("name", 0, "q"), first), (("node", first), FOLDER)))

    def test_refused_deeds(self):
        luck = seeded(34)
        for wild in sound_tables(luck, 300):
            deed = some_deed(luck, TableByHand(wild).model().plain())
            word = refusal(tree_told(wild), deed)
            if word is not None:
                self.assert_refused(Refused(word), notes_for, wild, FIRST, deed)

    def test_pieces_that_end_in_zeros_are_set_right_by_any_deed(self):
        loose = file_of(20, (0, (1, 0)), (1, (0, 0)))
        self.assert_notes(loose, ("folder", ("b",)), (B, FIRST), (("node", FIRST), FOLDER), (("piece", 1, 0), (1,)),
                          (("piece", 1, 1), None))

    def test_keys_that_are_not_reached_need_no_note(self):
        wild = table((A, 1), (("name", 1, "x"), 2), (("name", 7, "y"), 1), (("node", 1), FOLDER),
                     (("node", 2), ("file", 3)), (("piece", 1, 0), (7,)), (("piece", 2, 0), (7,)))
        both = ("all", (("remove", ("a", "x")), ("remove", ("a",))))
        self.assert_notes(wild, both, (A, None))
        self.assert_notes(wild, ("remove", ("a", "x")), (("name", 1, "x"), None))
        self.assertEqual(len(table_behind(wild, notes_for(wild, FIRST, both))), 6)

    def test_table_behind(self):
        before = ((A, 1), (B, None), (("node", 1), ("file", 3)), (("piece", 1, 0), (1,)))
        notes = ((A, None), (C, 1), (("node", 1), ("file", 4)), (("piece", 2, 0), None))
        self.assertEqual(table_behind(before, notes), ((C, 1), (("node", 1), ("file", 4)), (("piece", 1, 0), (1,))))
        self.assertEqual(table_behind(before, ()), before[:1] + before[2:])
        self.assertEqual(table_behind((), ((A, 5),)), ((A, 5),))


class TurnTest(FlashCase):
    """For all sound tables and deeds."""

    def assert_turned(self, wild, deed, luck):
        notes = notes_for(wild, FIRST, deed)
        hand = TableByHand(wild).model()
        hand.first = FIRST
        hand.do(*deed)
        self.assertEqual(notes, hand.notes(wild), (wild, deed))
        after = table_behind(wild, notes)
        self.assertIs(is_sound(after), True)
        self.assertEqual(tree_told(after), behind(tree_told(wild), deed))
        self.assertEqual([key for key, _ in notes], sorted({key for key, _ in notes}))
        told = dict(wild)
        self.assertFalse([pair for pair in notes if told.get(pair[0]) == pair[1]])
        live = live_keys(wild)
        some = tuple([pair for pair in wild if pair[0] in live or luck.random() < 0.5])
        self.assertEqual(notes_for(some, FIRST, deed), notes)
        self.assertEqual(live_keys(table_behind(some, notes)), live_keys(after))
        return after, notes

    def test_rows_of_deeds(self):
        luck, kinds = seeded(35), {}
        for wild in sound_tables(luck, 600):
            is_tidy = False
            for _ in range(5):
                deed = some_deed(luck, TableByHand(wild).model().plain())
                if refusal(tree_told(wild), deed) is None:
                    after, notes = self.assert_turned(wild, deed, luck)
                    if is_tidy:
                        many = {"write": 17, "cut": 17, "all": 136}.get(deed[0], 2)
                        self.assertLessEqual(len(notes), many)
                    kinds[deed[0]] = kinds.get(deed[0], 0) + 1
                    # Behind notes no piece ends in 0; made nodes get lower numbers again.
                    wild, is_tidy = after, True
                    if max([key[1] for key, _ in after] + [0]) >= FIRST:
                        wild = table_for(tree_told(after))
        self.assertEqual(len(kinds), 8)
        self.assertGreater(min(kinds.values()), 15)

    def test_a_deed_of_136_notes(self):
        wild = ()
        for number, name in enumerate("abcdefgh"):
            wild += (("name", 0, name), number + 1), (("node", number + 1), ("file", 0))
        wild = table(*wild)
        deed = ("all", tuple([("write", (name,), 0, (7,) * 256) for name in "abcdefgh"]))
        after, notes = self.assert_turned(wild, deed, seeded(36))
        self.assertEqual((len(notes), len(live_keys(after))), (136, 8 + 136))
        cut = ("all", tuple([("cut", (name,), 0) for name in "abcdefgh"]))
        self.assertEqual(len(self.assert_turned(after, cut, seeded(37))[1]), 136)


if __name__ == "__main__":
    unittest.main()
