"""A chip: blocks of pages that are programmed and erased, by a luck told ahead."""

from flashtrees.arguments import first_wrong, is_from, require_between
from flashtrees.errors import InvalidImage, InvalidLuck, PowerCut
from flashtrees.pages import BLANK, WIDTH, erased, is_page, programmed, require_page

# These bounds are those of the blocks of a chip, and of the pages of a block.
LEAST = 5
MOST = 12


def is_row(value):
    """Whether a value is a tuple of as many elements as a chip has blocks, and a block pages."""
    return isinstance(value, tuple) and LEAST <= len(value) <= MOST


def is_block(value):
    """Whether a value is a block of as many pages as blocks may have."""
    if not isinstance(value, tuple) or len(value) != 3:
        return False
    is_bad, erasures, pages = value
    if not isinstance(is_bad, bool) or not is_from(erasures, 0):
        return False
    return is_row(pages) and first_wrong(pages, is_page) is None


def wrong_block_in(image):
    """The index of the first element that is no block of as many pages as the first one; None."""
    return first_wrong(image, lambda block: is_block(block) and len(block[2]) == len(image[0][2]))


def is_image(value):
    """Whether a value, whatever it is, is an image."""
    return is_row(value) and wrong_block_in(value) is None


def require_image(image):
    """InvalidImage for no image."""
    if not is_row(image):
        raise InvalidImage(None)
    wrong = wrong_block_in(image)
    if wrong is not None:
        raise InvalidImage(wrong)


def blank_image(blocks, pages):
    """The image of blocks of blank pages, none bad, none ever erased."""
    require_between(blocks, LEAST, MOST)
    require_between(pages, LEAST, MOST)
    return ((False, 0, (BLANK,) * pages),) * blocks


def is_outcome(value):
    """Whether a value is an outcome of a program or an erase."""
    if not isinstance(value, tuple) or len(value) not in (1, 2):
        return False
    word = value[0]
    if not isinstance(word, str):
        return False
    if len(value) == 1:
        return word == "done"
    return word in ("cut", "fails") and is_from(value[1], 0)


def is_luck(value):
    """Whether a value, whatever it is, is a luck."""
    return isinstance(value, tuple) and first_wrong(value, is_outcome) is None


def require_luck(luck):
    """InvalidLuck for no luck."""
    if not isinstance(luck, tuple):
        raise InvalidLuck(None)
    wrong = first_wrong(luck, is_outcome)
    if wrong is not None:
        raise InvalidLuck(wrong)


class Chip:
    """An image that is programmed and erased, each time with the next outcome of a luck."""

    def __init__(self, image, luck):
        require_image(image)
        require_luck(luck)
        self._blocks = list(image)
        self._luck = luck
        self._begun = 0
        self._is_gone = False

    def read(self, block, page):
        """The page; PowerCut if the power is gone."""
        self._require_page_index(block, page)
        self._require_power()
        return self._blocks[block][2][page]

    def program(self, block, page, word):
        """Program a page; whether that was done. PowerCut if the power goes, or is gone."""
        self._require_page_index(block, page)
        require_page(word)
        self._require_power()
        is_bad, erasures, pages = self._blocks[block]
        if is_bad:
            return False
        kind, mask = self._next_outcome(0)
        left = programmed(pages[page], word, mask)
        return self._settle(block, kind, erasures, pages[:page] + (left,) + pages[page + 1:])

    def erase(self, block):
        """Erase a block; whether that was done. PowerCut if the power goes, or is gone."""
        self._require_block_index(block)
        self._require_power()
        is_bad, erasures, pages = self._blocks[block]
        if is_bad:
            return False
        kind, mask = self._next_outcome((1 << (WIDTH * len(pages))) - 1)
        left = tuple([erased(old, mask >> (WIDTH * index)) for index, old in enumerate(pages)])
        return self._settle(block, kind, erasures + 1, left)

    def image(self):
        """The image as it is now."""
        return tuple(self._blocks)

    def size(self):
        """The pair of the number of blocks and that of the pages of a block."""
        return len(self._blocks), len(self._blocks[0][2])

    def operations(self):
        """How many programs and erases were begun, those of bad blocks left out."""
        return self._begun

    def is_cut(self):
        """Whether the power is gone."""
        return self._is_gone

    def _require_block_index(self, block):
        require_between(block, 0, len(self._blocks) - 1)

    def _require_page_index(self, block, page):
        self._require_block_index(block)
        require_between(page, 0, len(self._blocks[0][2]) - 1)

    def _require_power(self):
        if self._is_gone:
            raise PowerCut()

    def _next_outcome(self, done_mask):
        """The kind and the mask of the outcome of what is begun now."""
        outcome = self._luck[self._begun] if self._begun < len(self._luck) else ("done",)
        self._begun += 1
        if len(outcome) == 1:
            return "done", done_mask
        return outcome

    def _settle(self, block, kind, erasures, pages):
        """Keep what is left of a block; whether what was begun is done."""
        self._blocks[block] = (kind == "fails", erasures, pages)
        if kind == "cut":
            self._is_gone = True
            raise PowerCut()
        return kind == "done"
