"""A shelf: it writes the notes of deeds on a chip, and cleans blocks to make space for them."""

from flashtrees.arguments import is_between
from flashtrees.errors import InvalidNumber, NoRoom, NotOrderly, NotSound, PowerCut, WornOut
from flashtrees.notes import COPY, END, drop_numbers, head_numbers, note_numbers
from flashtrees.pages import GREATEST_UNIT, word_of
from flashtrees.surveys import Survey
from flashtrees.tables import live_part, merged
from flashtrees.turning import require_notes

MOST_SPARE = 3
# A chip has so many blocks more than its SPARE, at least.
LEAST_SOUND = 4
MOST_CLEANINGS = 100
# No count comes to the greatest number that a page can tell while one deed is written.
GREATEST_COUNT = (1 << 32) - 10000


def is_spare(value, many):
    """Whether a value is a SPARE that a chip of MANY blocks may have."""
    return is_between(value, 0, min(MOST_SPARE, many - LEAST_SOUND))


def require_spare(spare, many):
    """InvalidNumber for what is no SPARE of a chip of MANY blocks."""
    if not is_spare(spare, many):
        raise InvalidNumber(spare)


def room_of(many, size, spare):
    """The ROOM of a chip of MANY blocks of SIZE pages with a SPARE."""
    return (many - spare - 2) * (size - 2)


class Shelf:
    """A chip, what was read of it last, and the blocks that are known as bad."""

    def __init__(self, chip, spare):
        many, size = chip.size()
        require_spare(spare, many)
        if chip.is_cut():
            raise PowerCut()
        self._chip = chip
        self._spare = spare
        self._room = room_of(many, size, spare)
        self._survey = Survey([self._read(block, size) for block in range(many)])
        if self._survey.kept_nodes() is None:
            raise NotOrderly()
        self._bads = self._survey.told_bads()
        self._erasures = list(self._survey.told_erasures())
        current = self._survey.current
        self._is_leftover = current is not None and current not in self._bads and self._survey.may_erase(current)

    @property
    def room(self):
        """How many live keys and notes of a deed there may be together."""
        return self._room

    @property
    def bads(self):
        """The ascending tuple of known bad blocks."""
        return self._bads

    def table(self):
        """The ascending tuple of keys and values, without gone ones."""
        return self._survey.table()

    def live(self):
        """How many live keys there are."""
        return len(self._survey.live())

    def space(self):
        """How many note pages there are ahead of the reserve; it may be below 0."""
        page = self._note_page()
        left = 0 if page is None else self._survey.many_pages - 1 - page
        return left + (self.free() - self.reserve()) * (self._survey.many_pages - 2)

    def free(self):
        """How many blocks are free."""
        return len([block for block in range(self._survey.many_blocks) if self._is_free(block)])

    def reserve(self):
        """How many free blocks deeds leave for cleanings and for blocks that fail."""
        return 1 + self._spare - len(self._bads)

    def do(self, notes):
        """Write a deed of these notes."""
        require_notes(notes)
        if self._chip.is_cut():
            raise PowerCut()
        self._require_sound_behind(notes)
        if self.live() + len(notes) > self._room:
            raise NoRoom()
        if notes != ():
            self._require_unworn()
            self._write_deed(notes)

    def greatest_node(self):
        """The greatest node number in keys and values of the notes on the chip."""
        return self._survey.greatest_node()

    def live_table(self):
        """The pairs of the table the keys of which are live."""
        return self._survey.live()

    def _require_sound_behind(self, notes):
        """NotSound for notes that lead to no sound table, or back to what is not reached any more."""
        whole = live_part(merged(self.table(), notes))
        alone = live_part(merged(self._survey.live(), notes))
        if whole is None or whole != alone:
            raise NotSound()

    def _require_unworn(self):
        """WornOut if too many blocks are known bad, or a count is near its end."""
        last = self._survey.last_order()
        counts = [self._survey.start, 0 if last is None else last, self._survey.greatest_deed()]
        if len(self._bads) > self._spare or max(counts) > GREATEST_COUNT:
            raise WornOut()

    def _read(self, block, size):
        return tuple([self._chip.read(block, page) for page in range(size)])

    def _program(self, block, page, numbers):
        """Program a page with what tells the numbers, and read it again; whether that was done."""
        is_done = self._chip.program(block, page, word_of(numbers))
        self._survey.take_page(block, page, self._chip.read(block, page))
        return self._settle(block, is_done)

    def _erase(self, block):
        """Erase a block, and read it again; whether that was done."""
        is_done = self._chip.erase(block)
        self._survey.take_block(block, self._read(block, self._survey.many_pages))
        if is_done:
            self._erasures[block] = min(GREATEST_UNIT, self._erasures[block] + 1)
        return self._settle(block, is_done)

    def _settle(self, block, is_done):
        """Know a block as bad that failed, WornOut if it is one too many; whether the operation was done."""
        if not is_done:
            others = [bad for bad in self._bads if bad != block]
            self._bads = tuple(sorted(others + [block]))
            if len(self._bads) > self._spare:
                raise WornOut()
        return is_done

    def _is_free(self, block):
        return not self._survey.is_listed(block) and block not in self._bads

    def _note_page_of(self, block):
        """A block's page for the next note; None if there is none."""
        page = self._survey.next_page(block)
        return None if page is None or page > self._survey.many_pages - 2 else page

    def _note_page(self):
        """The current block's page for the next note; None if there is none, or the block is known bad."""
        current = self._survey.current
        return None if current is None or current in self._bads else self._note_page_of(current)

    def _begin_block(self, block):
        """Erase a block and give it a head; whether both were done."""
        if not self._erase(block):
            return False
        last = self._survey.last_order()
        start = self._survey.start
        order = start if last is None else last + 1
        numbers = head_numbers(self._survey.many_blocks, order, start, self._bads, tuple(self._erasures))
        return self._program(block, 0, numbers)

    def _free_block(self):
        """The free block that is taken next, going round from behind the current one; None."""
        many = self._survey.many_blocks
        first = 0 if self._survey.current is None else self._survey.current + 1
        for step in range(many):
            block = (first + step) % many
            if self._is_free(block) and self._survey.may_erase(block):
                return block
        return None

    def _take_block(self):
        """Begin the next free block that does not fail; WornOut if there is none."""
        is_done = False
        while not is_done:
            block = self._free_block()
            if block is None:
                raise WornOut()
            is_done = self._begin_block(block)

    def _begin_anew(self):
        """Behind a cut: begin the current block anew if all that it tells is told by others."""
        if self._is_leftover:
            self._is_leftover = False
            self._begin_block(self._survey.current)

    def _copy(self, giver):
        """Copy a note into the current block; whether that was done."""
        _, _, deed, _, key, value = giver
        block = self._survey.current
        return self._program(block, self._note_page_of(block), note_numbers(deed, COPY, key, value))

    def _lacking(self):
        """The givers in listed blocks that are known bad, in order."""
        if not any([self._survey.is_listed(block) for block in self._bads]):
            return []
        return [giver for giver in self._survey.givers() if giver[0] in self._bads]

    def _copy_lacking(self):
        """Copy what is needed out of known bad blocks."""
        lacking = self._lacking()
        while len(lacking) > 0:
            if self._note_page() is None:
                self._take_block()
            self._copy(lacking[0])
            lacking = self._lacking()

    def _write_deed(self, notes):
        """Write the notes of a deed as soon as there is space for them."""
        cleanings = 0
        is_written = False
        while not is_written:
            self._begin_anew()
            self._copy_lacking()
            if self.space() >= len(notes):
                cleanings = 0
                is_written = self._write_notes(notes)
            elif cleanings == MOST_CLEANINGS:
                raise WornOut()
            else:
                cleanings += 1
                self._clean()

    def _write_notes(self, notes):
        """Write notes in order, the last one as their deed's end; whether the deed is ended."""
        deed = self._survey.greatest_deed() + 1
        for index, (key, value) in enumerate(notes):
            if self._note_page() is None:
                self._take_block()
            block, page = self._survey.current, self._note_page()
            flag = END if index == len(notes) - 1 else 0
            numbers = note_numbers(deed, flag, key, value)
            if not self._program(block, page, numbers):
                # A block that fails may have taken the whole word: then the deed must not be written again.
                return flag == END and self._survey.page(block, page) == word_of(numbers)
        return True

    def _clean(self):
        """Copy givers into a fresh block, and drop the eldest blocks that have none left."""
        if self.free() >= self.reserve():
            self._take_block()
        block = self._survey.current
        for giver in self._survey.givers():
            if giver[0] != block:
                if self._note_page_of(block) is None:
                    break
                if not self._copy(giver):
                    return
        self._drop_emptied(block)

    def _drop_emptied(self, block):
        """Program a drop into a block, the current one, if the eldest blocks ahead of it have no givers left."""
        page = self._survey.next_page(block)
        needed = {giver[0]: True for giver in self._survey.givers()}
        orders = [order for each, order in self._survey.listed if each == block or each in needed]
        if orders[0] > self._survey.start and page is not None:
            self._program(block, page, drop_numbers(orders[0]))
