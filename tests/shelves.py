"""A second shelf for tests: [C1] to [C8] and [E9] sentence by sentence, each time read from the whole image."""

from flashtrees.errors import WornOut
from flashtrees.notes import told_of
from flashtrees.pages import BLANK, told_by
from tests.images import ByHand, drop, head, note
from tests.tables import TableByHand


def without(image, block):
    """The image with nothing in a block."""
    is_bad, erasures, pages = image[block]
    return image[:block] + ((is_bad, erasures, (BLANK,) * len(pages)),) + image[block + 1:]


def may_erase_by_hand(image, block):
    reading, pages = ByHand(image), image[block][2]
    if ByHand(without(image, block)).start != reading.start:
        return False
    heads = [told_of(len(image), told_by(page)) for page in pages if told_by(page) is not None]
    heads = [one for one in heads if one is not None and one[0] == "head"]
    if len(heads) > (1 if block in reading.heads else 0):
        return False
    for page in pages:
        if page % 1024 < bin(page // 1024 ^ (2 ** 512 - 1)).count("1"):
            return False
    if block not in dict(reading.listed):
        return True
    elsewhere = [one for one in reading.counting if one[0] != block]
    here = [one for one in reading.counting if one[0] == block]
    copied = [one for one in here if one[3] == 2 and any(
        (each[2], each[4], each[5]) == (one[2], one[4], one[5]) for each in elsewhere)]
    return "drop" not in reading.kinds[block] and len(copied) == len(here)


def opens_by_hand(image):
    return not ByHand(image).faults() and TableByHand(ByHand(image).table).is_sound


class Failed(Exception):
    """A block failed; what is done next hangs on what was being done."""


class ShelfByHand:
    def __init__(self, chip, spare):
        self.chip, self.spare, self.read = chip, spare, {}
        self.many, self.size = chip.size()
        image, reading = chip.image(), ByHand(chip.image())
        self.bads = list(reading.current()[3])
        self.erasures = list(reading.current()[4])
        current = reading.listed[-1][0] if reading.listed else None
        self.anew = current is not None and current not in self.bads and may_erase_by_hand(image, current)

    def reading(self):
        """What the image means; nothing but an operation changes it."""
        if self.chip.operations() not in self.read:
            self.read = {self.chip.operations(): ByHand(self.chip.image())}
        return self.read[self.chip.operations()]

    def current(self):
        listed = self.reading().listed
        return listed[-1][0] if listed else None

    def free(self):
        listed = dict(self.reading().listed)
        return [block for block in range(self.many) if block not in listed and block not in self.bads]

    def reserve(self):
        return self.spare + 1 - len(self.bads)

    def note_pages(self):
        """The current block's note pages from its next page on."""
        block = self.current()
        return [] if block is None or block in self.bads else self.note_pages_of(block)

    def note_pages_of(self, block):
        page = self.reading().next_page(block)
        return [] if page is None else list(range(page, self.size - 1))

    def space(self):
        return len(self.note_pages()) + (len(self.free()) - self.reserve()) * (self.size - 2)

    def room(self):
        return (self.many - self.spare - 2) * (self.size - 2)

    def live(self):
        return TableByHand(self.reading().table).live()

    def givers(self):
        """The notes that give live keys their values, in the order of blocks and pages."""
        reading, live = self.reading(), self.live()
        return [one for one in reading.notes if reading.givers.get(one[4]) == one and one[4] in live]

    def failed(self, block):
        if block not in self.bads:
            self.bads.append(block)
        if len(self.bads) > self.spare:
            raise WornOut()
        raise Failed()

    def program(self, block, page, word):
        if not self.chip.program(block, page, word):
            self.failed(block)

    def begin(self, block):
        if not self.chip.erase(block):
            self.failed(block)
        self.erasures[block] = min(65535, self.erasures[block] + 1)
        reading = self.reading()
        order = reading.listed[-1][1] + 1 if reading.listed else reading.start
        self.program(block, 0, head(self.many, order, reading.start, tuple(sorted(self.bads)), tuple(self.erasures)))

    def begin_next(self):
        while True:
            current = self.current()
            first = 0 if current is None else current + 1
            blocks = [(first + step) % self.many for step in range(self.many)]
            blocks = [block for block in blocks if block in self.free() and may_erase_by_hand(self.chip.image(), block)]
            if not blocks:
                raise WornOut()
            try:
                return self.begin(blocks[0])
            except Failed:
                pass

    def copy(self, giver):
        block = self.current()
        self.program(block, self.note_pages_of(block)[0], note(giver[2], 2, giver[4], giver[5]))

    def lacking(self):
        return [giver for giver in self.givers() if giver[0] in self.bads]

    def clean(self):
        if len(self.free()) >= self.reserve():
            self.begin_next()
        block = self.current()
        for giver in self.givers():
            if giver[0] != block and self.note_pages_of(block):
                self.copy(giver)
        with_givers = [giver[0] for giver in self.givers()] + [block]
        orders = [order for each, order in self.reading().listed if each in with_givers]
        page = self.reading().next_page(block)
        if orders[0] > self.reading().start and page is not None:
            self.program(block, page, drop(orders[0]))

    def write(self, notes):
        deed = self.reading().deed + 1
        for index, (key, value) in enumerate(notes):
            if not self.note_pages():
                self.begin_next()
            block, page = self.current(), self.note_pages()[0]
            word = note(deed, 1 if index == len(notes) - 1 else 0, key, value)
            try:
                self.program(block, page, word)
            except Failed:
                if index == len(notes) - 1 and self.chip.read(block, page) == word:
                    return
                raise

    def do(self, notes):
        """A deed that is sound and has room."""
        reading = self.reading()
        counts = [reading.start, reading.deed] + [order for _, order in reading.listed]
        if len(self.bads) > self.spare or max(counts) > 2 ** 32 - 10000:
            raise WornOut()
        for _ in range(1000):
            try:
                if self.anew:
                    self.anew = False
                    self.begin(self.current())
                while self.lacking():
                    if not self.note_pages():
                        self.begin_next()
                    self.copy(self.lacking()[0])
                if self.space() >= len(notes):
                    return self.write(notes)
                self.clean()
            except Failed:
                pass
        raise WornOut()
