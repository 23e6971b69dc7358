"""Heads, notes and drops as numbers, there and back: [B1] and [B2], as flashtrees/notes.py tells them."""

import unittest

from flashtrees.errors import InvalidBlocks, InvalidKey, InvalidNumber, InvalidNumbers, InvalidValue
from flashtrees.notes import drop_numbers, head_numbers, is_key, is_name, is_value, note_numbers, told_of
from flashtrees.pages import told_by, word_of
from tests.support import FlashCase, seeded
from tests.values import BAD_KEYS, BAD_NAMES, BAD_VALUES, GOOD_KEYS, GOOD_NAMES, GOOD_VALUES, GREATEST

SIGNS = " abcdefghijklmnopqrstuvwxyz0123456789.-"
EDGES = (0, 1, 2, 3, 16, 17, 255, 256, 257, 65535)


def some_number(luck, least=1):
    return luck.choice((least, 1, 2, 65535, 65536, GREATEST, luck.randrange(least, 9), luck.randrange(least, 2 ** 32)))


def some_name(luck):
    return "".join([luck.choice(SIGNS[1:]) for _ in range(luck.randrange(1, 10))])


def some_note(luck):
    """A deed, a flag, a key and a value of it."""
    kind = luck.choice(("name", "node", "piece"))
    if kind == "name":
        key, value = (kind, some_number(luck, 0), some_name(luck)), luck.choice((None, some_number(luck)))
    elif kind == "node":
        key, value = (kind, some_number(luck)), luck.choice((("folder", 0), ("file", luck.choice((0, 1, 7, 255, 256)))))
    else:
        cells = tuple([luck.choice((0, 65535, luck.getrandbits(16))) for _ in range(luck.randrange(17))])
        key, value = (kind, some_number(luck), luck.randrange(16)), cells or None
    return some_number(luck), luck.randrange(3), key, value


def some_head(luck, many):
    """An order, a START, bad blocks and erasures for a chip of MANY blocks."""
    order = some_number(luck)
    start = luck.choice((1, order, luck.randint(1, order)))
    bads = tuple([block for block in range(many) if luck.random() < luck.choice((0, 0.3, 1))])
    return order, start, bads, tuple([luck.choice((0, 1, 65535, luck.getrandbits(16))) for _ in range(many)])


def name_by_hand(units):
    """The name of three units; None if there is none."""
    places = []
    for unit in units:
        places += [unit // 1600, unit % 1600 // 40, unit % 40]
    if max(places) > 38:
        return None
    padded = "".join([SIGNS[place] for place in places])
    name = padded.rstrip(" ")
    return name if name and " " not in name else None


def note_by_hand(numbers):
    """Key and value of the numbers of a note behind its flag; None."""
    kind, high, low = numbers[:3]
    node, rest = 65536 * high + low, numbers[3:]
    if kind == 1 and len(rest) >= 3:
        name, behind = name_by_hand(rest[:3]), rest[3:]
        if name is not None and (behind == () or (len(behind) == 3 and behind[0] == 1 and behind[1:] != (0, 0))):
            return ("name", node, name), 65536 * behind[1] + behind[2] if behind else None
    if kind == 2 and node > 0 and len(rest) == 2 and (rest == (1, 0) or (rest[0] == 2 and rest[1] <= 256)):
        return ("node", node), ({1: "folder", 2: "file"}[rest[0]], rest[1])
    if kind == 3 and node > 0 and 1 <= len(rest) <= 17 and rest[0] < 16:
        return ("piece", node, rest[0]), rest[1:] or None
    return None


def told_by_hand(many, numbers):
    """What numbers tell, read straight from [B1] and [B2]."""
    if numbers[:1] == (1,) and len(numbers) == 7 + many:
        order, start = numbers[1] * 65536 + numbers[2], numbers[3] * 65536 + numbers[4]
        if 1 <= start <= order and numbers[5] < 2 ** many and numbers[6] == many:
            bads = tuple([block for block in range(many) if numbers[5] // 2 ** block % 2])
            return ("head", order, start, bads, numbers[7:])
    if numbers[:1] == (2,) and len(numbers) >= 7:
        deed, pair = numbers[1] * 65536 + numbers[2], note_by_hand(numbers[4:])
        if deed >= 1 and numbers[3] <= 2 and pair is not None:
            return ("note", deed, numbers[3]) + pair
    if numbers[:1] == (3,) and len(numbers) == 3 and numbers[1:] != (0, 0):
        return ("drop", numbers[1] * 65536 + numbers[2])
    return None


class KeysTest(unittest.TestCase):
    def test_names(self):
        for name in GOOD_NAMES + [some_name(seeded(seed)) for seed in range(100)]:
            self.assertIs(is_name(name), True, name)
        for name in BAD_NAMES:
            self.assertIs(is_name(name), False, name)

    def test_each_sign_alone_and_in_each_place(self):
        for code in range(300):
            sign = chr(code)
            for name in (sign, sign + "a", "a" + sign, "aaaa" + sign + "aaaa", "a" * 8 + sign):
                self.assertIs(is_name(name), sign in SIGNS[1:], name)

    def test_the_length_of_a_name(self):
        for many in range(20):
            self.assertIs(is_name("a" * many), 1 <= many <= 9)

    def test_keys(self):
        for key in GOOD_KEYS + [("name", 7, name) for name in GOOD_NAMES]:
            self.assertIs(is_key(key), True, key)
        for key in BAD_KEYS:
            self.assertIs(is_key(key), False, key)

    def test_the_bounds_of_keys(self):
        for node in (-1, 0, 1, 2, 65535, 65536, GREATEST - 1, GREATEST, GREATEST + 1):
            self.assertIs(is_key(("name", node, "a")), 0 <= node <= GREATEST)
            self.assertIs(is_key(("node", node)), 1 <= node <= GREATEST)
            self.assertIs(is_key(("piece", node, 3)), 1 <= node <= GREATEST)
        for index in range(-2, 20):
            self.assertIs(is_key(("piece", 1, index)), 0 <= index <= 15)

    def test_values(self):
        for key in GOOD_KEYS:
            for value in GOOD_VALUES[key[0]]:
                self.assertIs(is_value(key, value), True, (key, value))
            for value in BAD_VALUES[key[0]]:
                self.assertIs(is_value(key, value), False, (key, value))

    def test_the_values_of_other_keys(self):
        for key in GOOD_KEYS:
            for kind, values in GOOD_VALUES.items():
                for value in values:
                    fits = kind == key[0] or (value is None and key[0] != "node")
                    self.assertIs(is_value(key, value), fits, (key, value))

    def test_the_bounds_of_values(self):
        for length in range(-1, 259):
            self.assertIs(is_value(("node", 1), ("file", length)), 0 <= length <= 256)
            self.assertIs(is_value(("node", 1), ("folder", length)), length == 0)
        for many in range(40):
            self.assertIs(is_value(("piece", 1, 0), (7,) * many), 1 <= many <= 16)

    def test_arguments_by_name(self):
        self.assertIs(is_key(value=("node", 1)), True)
        self.assertIs(is_value(value=1, key=("name", 0, "a")), True)
        self.assertIs(is_name(value="a"), True)


class ByHandTest(unittest.TestCase):
    """The numbers of [B1] and [B2], put together by hand."""

    def test_heads(self):
        self.assertEqual(head_numbers(5, 1, 1, (), (0,) * 5), (1, 0, 1, 0, 1, 0, 5, 0, 0, 0, 0, 0))
        self.assertEqual(head_numbers(6, 65538, 65537, (1, 5), (7, 6, 5, 4, 3, 65535)),
                         (1, 1, 2, 1, 1, 34, 6, 7, 6, 5, 4, 3, 65535))
        self.assertEqual(head_numbers(12, GREATEST, GREATEST, tuple(range(12)), (9,) * 12),
                         (1, 65535, 65535, 65535, 65535, 4095, 12) + (9,) * 12)
        self.assertEqual(head_numbers(erasures=(1,) * 5, bads=(4,), start=2, order=3, many=5),
                         (1, 0, 3, 0, 2, 16, 5, 1, 1, 1, 1, 1))

    def test_drops(self):
        ends = {1: (3, 0, 1), 65535: (3, 0, 65535), 65536: (3, 1, 0), GREATEST: (3, 65535, 65535)}
        for start, numbers in ends.items():
            self.assertEqual(drop_numbers(start), numbers)
            self.assertEqual(drop_numbers(start=start), numbers)

    def test_notes_of_names(self):
        self.assertEqual(note_numbers(1, 0, ("name", 0, "a"), None), (2, 0, 1, 0, 1, 0, 0, 1600, 0, 0))
        self.assertEqual(note_numbers(65536, 1, ("name", 65537, "abcdefghi"), 65536),
                         (2, 1, 0, 1, 1, 1, 1, 1600 + 80 + 3, 6400 + 200 + 6, 11200 + 320 + 9, 1, 1, 0))
        self.assertEqual(note_numbers(GREATEST, 2, ("name", GREATEST, "z0.9-"), GREATEST),
                         (2, 65535, 65535, 2, 1, 65535, 65535, 41600 + 1080 + 37, 57600 + 1520, 0, 1, 65535, 65535))

    def test_notes_of_nodes(self):
        self.assertEqual(note_numbers(3, 1, ("node", 1), ("folder", 0)), (2, 0, 3, 1, 2, 0, 1, 1, 0))
        self.assertEqual(note_numbers(3, 1, ("node", 65536), ("file", 0)), (2, 0, 3, 1, 2, 1, 0, 2, 0))
        self.assertEqual(note_numbers(3, 2, ("node", GREATEST), ("file", 256)), (2, 0, 3, 2, 2, 65535, 65535, 2, 256))

    def test_notes_of_pieces(self):
        self.assertEqual(note_numbers(3, 1, ("piece", 1, 0), None), (2, 0, 3, 1, 3, 0, 1, 0))
        self.assertEqual(note_numbers(3, 0, ("piece", 65537, 15), (9,)), (2, 0, 3, 0, 3, 1, 1, 15, 9))
        self.assertEqual(note_numbers(3, 0, ("piece", 2, 7), (0, 65535) * 8), (2, 0, 3, 0, 3, 0, 2, 7) + (0, 65535) * 8)

    def test_each_sign_of_a_name(self):
        for index, sign in enumerate(SIGNS[1:]):
            numbers = note_numbers(1, 0, ("name", 0, sign * 9), 1)
            self.assertEqual(numbers[7:10], (1641 * (index + 1),) * 3)
            self.assertEqual(note_numbers(1, 0, ("name", 0, "aa" + sign), 1)[7], 1640 + index + 1)
        for many in range(1, 10):
            places = [1] * many + [0] * (9 - many)
            units = tuple([1600 * places[k] + 40 * places[k + 1] + places[k + 2] for k in (0, 3, 6)])
            self.assertEqual(note_numbers(1, 0, ("name", 0, "a" * many), 1)[7:10], units)


class ThereAndBackTest(unittest.TestCase):
    def test_heads(self):
        luck = seeded(1)
        for many in range(5, 13):
            for _ in range(60):
                head = some_head(luck, many)
                numbers = head_numbers(many, *head)
                self.assertEqual(told_of(many, numbers), ("head",) + head)
                for other in range(5, 13):
                    if other != many:
                        self.assertIsNone(told_of(other, numbers))

    def test_notes(self):
        luck = seeded(2)
        for _ in range(1000):
            note = some_note(luck)
            self.assertEqual(told_of(luck.randrange(5, 13), note_numbers(*note)), ("note",) + note)

    def test_notes_at_the_edges(self):
        for key in GOOD_KEYS:
            for value in GOOD_VALUES[key[0]]:
                for deed in (1, 65535, 65536, GREATEST):
                    for flag in (0, 1, 2):
                        numbers = note_numbers(deed, flag, key, value)
                        self.assertEqual(told_of(5, numbers), ("note", deed, flag, key, value))

    def test_drops(self):
        for start in (1, 2, 65535, 65536, 65537, GREATEST):
            self.assertEqual(told_of(12, drop_numbers(start)), ("drop", start))

    def test_unlike_ones_have_unlike_numbers(self):
        luck, told = seeded(3), {}
        for _ in range(2000):
            many = luck.randrange(5, 13)
            kind = luck.randrange(3)
            if kind == 0:
                head = some_head(luck, many)
                told.setdefault(head_numbers(many, *head), []).append(("head", many) + head)
            elif kind == 1:
                note = some_note(luck)
                told.setdefault(note_numbers(*note), []).append(("note",) + note)
            else:
                start = some_number(luck)
                told.setdefault(drop_numbers(start), []).append(("drop", start))
        for numbers, found in told.items():
            self.assertTrue(all(one == found[0] for one in found))
            self.assertLessEqual(len(numbers), 31)
        kinds = [found[0] for found in told.values()]
        self.assertEqual(len(set(kinds)), len(kinds))

    def test_they_go_through_pages(self):
        luck = seeded(4)
        for _ in range(100):
            note = some_note(luck)
            self.assertEqual(told_of(7, told_by(word_of(note_numbers(*note)))), ("note",) + note)

    def test_kinds_of_what_is_told(self):
        _, _, _, bads, erasures = told_of(5, head_numbers(5, 2, 1, (0, 3), (1, 2, 3, 4, 5)))
        self.assertEqual((bads.__class__, erasures.__class__), (tuple, tuple))
        self.assertIs(told_of(5, note_numbers(1, 1, ("piece", 1, 0), (1, 2)))[4].__class__, tuple)


class AnyNumbersTest(unittest.TestCase):
    """told_of of numbers that are near those of something, beside a reading by hand."""

    def assert_told(self, many, numbers):
        told = told_of(many, numbers)
        self.assertEqual(told, told_by_hand(many, numbers), (many, numbers))
        return told is not None

    def neighbours(self, numbers):
        """These numbers, shorter ones, longer ones, and those with one number changed."""
        yield numbers
        yield from (numbers[:many] for many in range(len(numbers)))
        yield from (numbers + (0,) * many for many in range(1, 32 - len(numbers)))
        yield from (numbers[:at] + numbers[at + 1:] for at in range(len(numbers)))
        for at, old in enumerate(numbers):
            for new in EDGES + ((old + 1) % 65536, (old - 1) % 65536, (old + 39) % 65536, old ^ 4096):
                yield numbers[:at] + (new,) + numbers[at + 1:]

    def test_numbers_near_those_of_notes_and_drops(self):
        luck, counts = seeded(5), [0, 0]
        for _ in range(60):
            for numbers in self.neighbours(note_numbers(*some_note(luck))):
                counts[self.assert_told(5, numbers)] += 1
        for start in (1, 65536, GREATEST):
            for numbers in self.neighbours(drop_numbers(start)):
                counts[self.assert_told(5, numbers)] += 1
        self.assertGreater(min(counts), 2000)

    def test_numbers_near_those_of_heads(self):
        luck, counts = seeded(6), [0, 0]
        for many in range(5, 13):
            for _ in range(4):
                for numbers in self.neighbours(head_numbers(many, *some_head(luck, many))):
                    counts[self.assert_told(many, numbers)] += 1
        self.assertGreater(min(counts), 1000)

    def test_all_short_numbers(self):
        for one in range(5):
            for two in EDGES:
                for three in EDGES:
                    for numbers in ((one,), (one, two), (one, two, three), (one, two, three, one)):
                        self.assert_told(5, numbers)
        self.assertIsNone(told_of(5, ()))

    def test_each_unit_of_a_name(self):
        """A unit alone, first, amid and last: names with gaps, or of places above 38, are none."""
        counts = [0, 0]
        for unit in list(range(0, 65536, 7)) + list(range(1600 * 38, 1600 * 40)):
            for units in ((unit, 0, 0), (3200, unit, 0), (1641, 1641, unit)):
                counts[self.assert_told(5, (2, 0, 1, 0, 1, 0, 0) + units)] += 1
        self.assertGreater(min(counts), 5000)

    def test_random_numbers(self):
        luck = seeded(7)
        for _ in range(3000):
            kind = luck.randrange(1, 4)
            numbers = (kind,) + tuple([luck.choice(EDGES) for _ in range(luck.randrange(31))])
            self.assert_told(luck.randrange(5, 13), numbers)

    def test_what_is_told_has_just_these_numbers(self):
        luck = seeded(8)
        for _ in range(60):
            for numbers in self.neighbours(note_numbers(*some_note(luck))):
                told = told_of(5, numbers)
                if told is not None:
                    again = {"note": note_numbers, "drop": drop_numbers}[told[0]](*told[1:])
                    self.assertEqual(again, numbers)


class WrongTest(FlashCase):
    def test_start_is_up_to_order(self):
        for order in (1, 2, 65536, GREATEST):
            head_numbers(5, order, order, (), (0,) * 5)
            above = order + 1
            self.assert_refused(InvalidNumber(above), head_numbers, 5, order, above, (), (0,) * 5)

    def test_blocks_and_erasures_of_the_told_many(self):
        for many in range(5, 13):
            erasures = (0,) * many
            self.assertEqual(head_numbers(many, 1, 1, (many - 1,), erasures)[5], 2 ** (many - 1))
            self.assert_refused(InvalidBlocks(0), head_numbers, many, 1, 1, (many,), erasures)
            self.assert_refused(InvalidBlocks(1), head_numbers, many, 1, 1, (0, many), erasures)
            for wrong in (erasures[1:], erasures + (0,)):
                self.assert_refused(InvalidNumbers(None), head_numbers, many, 1, 1, (), wrong)
            self.assert_refused(InvalidNumbers(many - 1), head_numbers, many, 1, 1, (), erasures[1:] + (65536,))

    def test_the_value_of_each_kind_of_key(self):
        for key in GOOD_KEYS:
            for value in BAD_VALUES[key[0]]:
                self.assert_refused(InvalidValue(value), note_numbers, 1, 0, key, value)
            for value in GOOD_VALUES[key[0]]:
                note_numbers(1, 0, key, value)

    def test_is_value_asks_for_a_key(self):
        for key in BAD_KEYS:
            for value in (None, 1, ("folder", 0), key):
                self.assert_refused(InvalidKey(key), is_value, key, value)


if __name__ == "__main__":
    unittest.main()
