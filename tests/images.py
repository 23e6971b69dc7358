"""Images for tests: built by hand, wild ones, orderly ones, and a reading of them straight from [B3] to [B7]."""

from flashtrees.notes import drop_numbers, head_numbers, note_numbers, told_of
from flashtrees.pages import BLANK, state_of, told_by, word_of

A, B = ("name", 0, "a"), ("name", 0, "b")
ONE, TWO = ("node", 1), ("node", 2)
PIECE = ("piece", 1, 0)
KEYS = (A, B, ONE, PIECE)
VALUES = {A: (None, 1, 2), B: (1, 7), ONE: (("folder", 0), ("file", 3)), PIECE: (None, (1,), (1, 2))}
HALF = 511
IDLES = (512, word_of((9, 9)), word_of((2, 0, 0, 1, 2, 0, 1, 1, 0)), (1 << 512) + 1023 - 512, BLANK - 1023)


def head(many, order, start=1, bads=(), erasures=None):
    return word_of(head_numbers(many, order, start, bads, (0,) * many if erasures is None else erasures))


def note(deed, flag, key, value):
    return word_of(note_numbers(deed, flag, key, value))


def drop(start):
    return word_of(drop_numbers(start))


def image_of(many, size, *blocks):
    """An image of MANY blocks of SIZE pages; blank pages and blocks stand behind those that are told."""
    rows = list(blocks) + [()] * (many - len(blocks))
    return tuple([(False, 0, tuple(row) + (BLANK,) * (size - len(row))) for row in rows])


def with_page(image, block, page, word):
    is_bad, erasures, pages = image[block]
    changed = (is_bad, erasures, pages[:page] + (word,) + pages[page + 1:])
    return image[:block] + (changed,) + image[block + 1:]


def some_note_page(luck, most=4):
    key = luck.choice(KEYS)
    return note(luck.randint(1, most), luck.choice((0, 1, 1, 2)), key, luck.choice(VALUES[key]))


def some_head_page(luck, many):
    order = luck.randint(1, 5)
    bads = tuple([block for block in range(many) if luck.random() < 0.2])
    return head(many, order, luck.randint(1, min(order, 2)), bads, tuple([luck.randrange(9) for _ in range(many)]))


def some_page_of(luck, many):
    kind = luck.choice(("blank", "half", "idle", "head", "note", "note", "note", "note", "note", "drop"))
    if kind == "head":
        return some_head_page(luck, luck.choice((many, many, 5, 6)))
    if kind == "note":
        return some_note_page(luck)
    return {"blank": BLANK, "half": HALF, "idle": luck.choice(IDLES), "drop": drop(luck.choice((1, 1, 2, 3)))}[kind]


def wild_image(luck):
    """An image of pages of all kinds, most blocks beginning with a head."""
    many, size = luck.randint(5, 7), luck.randint(5, 7)
    rows = []
    for _ in range(many):
        row = [some_page_of(luck, many) for _ in range(size)]
        if luck.random() < 0.6:
            row[0] = some_head_page(luck, many)
        for _ in range(luck.choice((0, 0, 1, size))):
            row[luck.randrange(size)] = BLANK
        rows.append((luck.random() < 0.2, luck.randrange(99), tuple(row)))
    return tuple(rows)


def some_words(luck, image):
    """The words that may stand next on an orderly image: notes of a deed, or a copy of a giver."""
    reading = ByHand(image)
    if reading.table and luck.random() < 0.4:
        giver = luck.choice(list(reading.givers.values()))
        return [note(giver[2], 2, giver[4], giver[5])]
    deed = reading.deed + 1
    keys = luck.sample(KEYS, luck.randint(1, 3))
    flags = [0] * (len(keys) - 1) + [luck.choice((1, 1, 1, 0))]
    return [note(deed, flag, key, luck.choice(VALUES[key])) for flag, key in zip(flags, keys)]


def orderly_image(luck):
    """An image whose blocks were filled in turn by deeds and copies; some drops, some blocks that are not listed."""
    many, size = luck.randint(5, 7), luck.randint(5, 7)
    image = image_of(many, size)
    words, order, turn = [], luck.randint(1, 9), luck.randrange(many)
    for step in range(luck.randint(1, many)):
        block = (turn + step) % many
        image = with_page(image, block, 0, head(many, order + step, ByHand(image).start, (), (step,) * many))
        for page in range(1, luck.randint(2, size - 1)):
            words = words or some_words(luck, image)
            image = with_page(image, block, page, words.pop(0))
        # A copy between the notes of a deed is no story's, but orderly; a deed may stay unended.
        words = words if luck.random() < 0.8 else []
    return image


class ByHand:
    """What an image means: each sentence by itself, with no thought for time."""

    def __init__(self, image):
        many, self.image = len(image), image
        self.kinds = [["idle"] * len(pages) for _, _, pages in image]
        self.heads, told = {}, {}
        for block, (_, _, pages) in enumerate(image):
            whole = [page for page, word in enumerate(pages) if state_of(word) == "whole"]
            for page, word in enumerate(pages):
                numbers = told_by(word)
                one = None if numbers is None else told_of(many, numbers)
                if page not in whole:
                    self.kinds[block][page] = state_of(word)
                elif one is not None and (one[0] != "head" or page == whole[0]):
                    self.kinds[block][page] = one[0]
                    told[block, page] = one
            if whole and self.kinds[block][whole[0]] == "head":
                self.heads[block] = told[block, whole[0]]
        starts = [one[2] for one in self.heads.values()] + [one[1] for one in told.values() if one[0] == "drop"]
        self.start = max(starts + [1])
        orders = {block: one[1] for block, one in self.heads.items() if one[1] >= self.start}
        self.listed = tuple(sorted(orders.items(), key=lambda pair: (pair[1], pair[0])))
        self.notes = [(block, page) + told[block, page][1:] for block, _ in self.listed
                      for page in range(len(image[0][2])) if told.get((block, page), ("",))[0] == "note"]
        ended = [deed for _, _, deed, flag, _, _ in self.notes if flag == 1]
        self.counting = [one for one in self.notes if one[3] == 2 or one[2] in ended]
        self.givers = {}
        for key in sorted({one[4] for one in self.counting}):
            of_key = [one for one in self.counting if one[4] == key]
            self.givers[key] = [one for one in of_key if one[2] == max([each[2] for each in of_key])][-1]
        self.table = tuple([(key, giver[5]) for key, giver in self.givers.items()])
        self.deed = max([one[2] for one in self.notes] + [0])
        nodes = [one[4][1] for one in self.notes] + [one[5] or 0 for one in self.notes if one[4][0] == "name"]
        self.node = max(nodes + [0])

    def current(self):
        return self.heads[self.listed[-1][0]] if self.listed else ("head", None, None, (), (0,) * len(self.image))

    def next_page(self, block):
        pages = self.image[block][2]
        free = [page for page in range(len(pages)) if all(word == BLANK for word in pages[page:])]
        return free[0] if free else None

    def faults(self):
        """The words of [B7]'s sentences that do not hold."""
        found = set()
        if len({order for _, order in self.listed}) < len(self.listed):
            found.add("same order")
        for at, (_, _, deed, flag, _, _) in enumerate(self.notes):
            ahead = [one for one in self.notes[:at] if one[3] != 2]
            if flag != 2 and any(one[2] == deed and one[3] == 1 for one in ahead):
                found.add("ended")
            if flag != 2 and any(one[2] > deed for one in ahead):
                found.add("turned back")
        for at, (_, _, deed, _, key, value) in enumerate(self.counting):
            ahead = [one for one in self.counting[:at] if one[4] == key]
            if any(one[2] > deed for one in ahead):
                found.add("elder behind")
            if any(one[2] == deed and one[5] != value for one in ahead):
                found.add("unlike")
        return found
