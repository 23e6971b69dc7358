"""A desk: a chip with a store on it, by lines of words."""

from flashtrees.arguments import is_between
from flashtrees.chip import LEAST, MOST, Chip, blank_image
from flashtrees.errors import InvalidLine, NoRoom, NotOrderly, PowerCut, Refused, WornOut
from flashtrees.examiner import findings
from flashtrees.lines import deed_of, luck_of, numbers_of, path_of, path_text, words_of
from flashtrees.nodes import walked
from flashtrees.reading import kinds_in, listed
from flashtrees.shelf import is_spare
from flashtrees.store import Store
from flashtrees.trees import node_at

MOST_HELD = 60
DEEDS = ("folder", "file", "write", "cut", "link", "remove", "move", "all")
# These orders have no words behind them.
ALONE = ("sync", "tree", "room", "blocks", "findings", "erasures")
OF_STORE = DEEDS + ("sync", "tree", "read", "room")
ORDERS = DEEDS + ALONE + ("chip", "power", "read")

NO_LINE = ("no such line",)


def chip_asked(words):
    """The numbers of a chip that words tell: BLOCKS, PAGES, SPARE, HELD; None."""
    numbers = numbers_of(words)
    if numbers is None or len(numbers) != 4:
        return None
    blocks, pages, spare, held = numbers
    if not is_between(blocks, LEAST, MOST) or not is_between(pages, LEAST, MOST):
        return None
    return numbers if is_spare(spare, blocks) and held <= MOST_HELD else None


def asked_by(words, pages):
    """What an order is asked to do, as the words behind it tell, for blocks of so many pages; None."""
    order, *rest = words
    if order in DEEDS:
        return deed_of(words)
    if order == "chip":
        return chip_asked(rest)
    if order == "power":
        return luck_of(rest, pages)
    if order == "read":
        return path_of(rest[0]) if len(rest) == 1 else None
    return None if rest else ()


def node_line(path, node):
    """The text for a path of a tree."""
    if node[0] == "folder":
        return f"{path_text(path)} folder"
    return f"{path_text(path)} file {node[1]} {len(node[2])}"


def tree_lines(tree):
    """The texts for all paths of a tree."""
    lines = [node_line(path, node) for path, node in walked(tree, ())]
    return tuple(lines) if lines else ("empty",)


def read_line(tree, path):
    """The texts for the cells of the file to which a path leads."""
    node = node_at(tree, path)
    if node is None or node[0] != "file":
        return ("no file",)
    return (" ".join([str(cell) for cell in node[2]]),)


def block_lines(image):
    """The texts for the blocks of an image."""
    orders = {block: order for block, order in listed(image)}
    kinds = kinds_in(image)
    lines = []
    for block, (is_bad, erasures, _) in enumerate(image):
        order = orders.get(block, "-")
        words = " ".join(kinds[block])
        lines.append(f"{block} {erasures} {order}: {words}" + (" bad" if is_bad else ""))
    return tuple(lines)


def finding_lines(image):
    """The texts for the findings of an image."""
    lines = [f"{word} {block} {page}" for word, block, page in findings(image)]
    return tuple(lines) if lines else ("orderly",)


def erasures_line(image, cuts):
    """The texts for the least and the greatest erasures of blocks that are not bad, and the cuts."""
    worn = [erasures for is_bad, erasures, _ in image if not is_bad]
    return (f"{min(worn, default=0)} {max(worn, default=0)} {cuts}",)


class Desk:
    """A chip, the SPARE and the HELD of its stores, and a store while the power is on."""

    def __init__(self):
        self._chip = None
        self._store = None
        self._spare = 0
        self._held = 0
        self._cuts = 0

    def image(self):
        """The desk's image; None if it has none."""
        return None if self._chip is None else self._chip.image()

    def say(self, line):
        """The answer to a line: a tuple of texts."""
        if not isinstance(line, str):
            raise InvalidLine(line)
        words = words_of(line)
        if not words or words[0] not in ORDERS:
            return NO_LINE
        order = words[0]
        if self._chip is None and order != "chip":
            return ("no chip",)
        pages = 0 if self._chip is None else self._chip.size()[1]
        asked = asked_by(words, pages)
        if asked is None:
            return NO_LINE
        if self._store is None and order in OF_STORE:
            return ("power is off",)
        return self._answer(order, asked)

    def _answer(self, order, asked):
        """The answer to an order that can be followed."""
        if order in DEEDS:
            return self._write(lambda: self._store.do(asked), "done")
        if order == "sync":
            return self._write(lambda: self._store.sync(), "synced")
        if order == "chip":
            return self._set_up(asked)
        if order == "power":
            return self._start(asked)
        if order == "read":
            return read_line(self._store.tree(), asked)
        if order == "tree":
            return tree_lines(self._store.tree())
        if order == "room":
            return (f"{self._store.live()} of {self._store.room}, {self._store.waiting} waiting",)
        if order == "blocks":
            return block_lines(self._chip.image())
        if order == "findings":
            return finding_lines(self._chip.image())
        return erasures_line(self._chip.image(), self._cuts)

    def _write(self, write, word):
        """The answer to what may write to the chip: the word if it comes to its end."""
        try:
            write()
        except Refused as refused:
            return (f"refused: {refused.word}",)
        except NoRoom:
            return ("no room",)
        except WornOut:
            return ("worn out",)
        except PowerCut:
            self._store = None
            self._cuts += 1
            return ("power cut",)
        return (word,)

    def _set_up(self, numbers):
        """Take a blank chip of these numbers, and open a store on it."""
        blocks, pages, self._spare, self._held = numbers
        self._cuts = 0
        self._turn_on(blank_image(blocks, pages), ())
        return ("ready",)

    def _start(self, luck):
        """Leave the store, and open another one on the image, with this luck."""
        self._turn_on(self._chip.image(), luck)
        return ("does not open",) if self._store is None else ("opened",)

    def _turn_on(self, image, luck):
        """Open a store on an image, if it opens."""
        self._chip = Chip(image, luck)
        try:
            self._store = Store(self._chip, self._spare, self._held)
        except NotOrderly:
            self._store = None
