"""Stories for tests: stores on chips that are cut and fail, each single operation of which is looked at."""

from flashtrees.chip import Chip
from flashtrees.errors import NoRoom, PowerCut, Refused, WornOut
from flashtrees.pages import BLANK, WIDTH
from flashtrees.reading import listed
from flashtrees.store import Store, opened_tree
from flashtrees.trees import behind, paths_of, refusal
from flashtrees.turning import notes_for, table_for
from tests.shelves import may_erase_by_hand
from tests.support import refusal_of, some_mask

SOME = ("a", "b", "c", "d-")


class WatchedChip(Chip):
    """A chip that tells a watcher of each operation that will use an outcome, just ahead of it."""

    def __init__(self, image, luck, watcher):
        super().__init__(image, luck)
        self.watcher = watcher

    def program(self, block, page, word):
        if not self.image()[block][0]:
            self.watcher(self.image(), lambda chip: chip.program(block, page, word), WIDTH)
        return super().program(block, page, word)

    def erase(self, block):
        if not self.image()[block][0]:
            self.watcher(self.image(), lambda chip: chip.erase(block), WIDTH * self.size()[1])
        return super().erase(block)


def cut_mask(luck, bits):
    """A mask for a cut or a failure: any one, or one by which whole pages are left as they were, or become blank."""
    if luck.random() < 0.5:
        return some_mask(luck, bits)
    mask = 0
    for page in range(bits // WIDTH):
        kind = luck.random()
        bit = 0 if kind < 0.4 else BLANK if kind < 0.8 else luck.getrandbits(WIDTH)
        mask |= bit << (WIDTH * page)
    return mask


def some_luck(luck, many, fails):
    """Outcomes of which up to FAILS fail; most lucks are cut at last."""
    told = [("done",)] * luck.randint(1, many)
    for _ in range(fails):
        told[luck.randrange(len(told))] = ("fails", cut_mask(luck, WIDTH * luck.choice((1, 12))))
    return tuple(told) + ((("cut", cut_mask(luck, WIDTH * luck.choice((1, 12)))),) if luck.random() < 0.8 else ())


def with_bads(luck, image, many):
    """The image, so many of its blocks being bad."""
    blocks = luck.sample(range(len(image)), many)
    return tuple([(block in blocks, erasures, pages) for block, (_, erasures, pages) in enumerate(image)])


def left_by(image, operation, mask):
    """What a cut of an operation leaves of an image."""
    chip = Chip(image, (("cut", mask),))
    try:
        operation(chip)
    except PowerCut:
        pass
    return chip.image()


def bad_blocks(image):
    return [block for block, (is_bad, _, _) in enumerate(image) if is_bad]


def wear(image):
    """How far the erasures of two blocks that are not bad differ."""
    worn = [erasures for is_bad, erasures, _ in image if not is_bad]
    return max(worn) - min(worn) if worn else 0


def small_deed(luck, tree):
    """A deed of a few notes, more often than not one that is done, often one that makes live keys less."""
    for _ in range(luck.choice((1, 4, 9))):
        deed = any_small_deed(luck, tree)
        if refusal(tree, deed) is None:
            break
    return deed


def any_small_deed(luck, tree):
    paths = [()] + list(paths_of(tree))
    there = luck.choice(paths)
    new = (luck.choice(paths) + (luck.choice(SOME),))[:6]
    kind = luck.choice(("folder", "file", "write", "write", "cut", "link", "remove", "remove", "move", "all"))
    if kind in ("folder", "file"):
        return (kind, new)
    if kind == "write":
        return (kind, there, luck.choice((0, 3, 15, 16, 200)),
                tuple([luck.randrange(4) for _ in range(luck.randrange(4))]))
    if kind == "cut":
        return (kind, there, luck.choice((0, 1, 16, 17, 256)))
    if kind == "remove":
        return (kind, there)
    if kind == "all":
        deeds = []
        for _ in range(luck.randint(1, 4)):
            deed = any_small_deed(luck, tree)
            if deed[0] != "all" and refusal(tree, deed) is None:
                deeds.append(deed)
                tree = behind(tree, deed)
        return (kind, tuple(deeds) or (("remove", there),))
    return (kind, there, luck.choice((new, luck.choice(paths))))


class Story:
    """One chip, store by store, a tree behind each deed; CASE is told whatever does not hold."""

    def __init__(self, case, luck, image, spare, is_fresh=True):
        self.case, self.luck, self.image, self.spare = case, luck, image, spare
        # [E4] asks more of stories that began with a blank image than of other images that open.
        self.is_fresh = is_fresh
        self.tree = opened_tree(image)
        self.cuts = self.operations = self.refused = self.full = self.done = self.worn = 0
        self.store = None

    def within_spare(self, image):
        return self.is_fresh and len(bad_blocks(image)) <= self.spare

    def begin(self, told):
        """Open a store; opening writes nothing, twice is as good as once."""
        self.chip = WatchedChip(self.image, told, self.watch)
        self.trees = [self.tree]
        for _ in range(2):
            self.store = Store(self.chip, self.spare, self.luck.choice((0, 0, 1, 3, 9, 60)))
            self.case.assertEqual((self.store.tree(), self.chip.operations()), (self.tree, 0))
        self.case.assertEqual(self.chip.image(), self.image)

    def watch(self, image, operation, bits):
        """Ahead of each operation: what is on the chip, and what would be if it was cut."""
        self.operations += 1
        self.look(image, self.cuts)
        if self.within_spare(image):
            self.look_at_reserve(image)
        for mask in (0, (1 << bits) - 1, cut_mask(self.luck, bits), cut_mask(self.luck, bits)):
            self.look(left_by(image, operation, mask), self.cuts + 1)

    def look(self, image, cuts):
        """[E4] for an image that is left at some moment; how many deeds it tells."""
        tree, written = opened_tree(image), self.store.written
        met = [at for at in range(written, written + 2) if at < len(self.trees) and self.trees[at] == tree]
        self.case.assertTrue(met, (written, self.trees[written:], tree))
        if self.within_spare(image):
            self.case.assertLessEqual(wear(image), 1 + cuts)
        return met[0]

    def look_at_reserve(self, image):
        """[C1] and [C9]."""
        shelf, blocks = self.store._shelf, listed(image)
        good = [block for block, _ in blocks if block not in shelf.bads]
        self.case.assertEqual(shelf.free() - shelf.reserve(), len(image) - self.spare - 1 - len(good))
        if shelf.free() < shelf.reserve():
            self.case.assertEqual(shelf.free(), shelf.reserve() - 1)
            self.case.assertTrue(may_erase_by_hand(image, blocks[-1][0]))

    def wanted(self, deed):
        """What the document says of a deed: the word it is refused by, or "no room", or the number of its notes."""
        before = self.trees[-1]
        word = refusal(before, deed)
        if word is not None:
            return word
        table = table_for(before)
        live, many = len(table), len(notes_for(table, len(table) + 1, deed))
        later = len(table_for(behind(before, deed)))
        room = (self.chip.size()[0] - self.spare - 2) * (self.chip.size()[1] - 2)
        self.case.assertEqual((self.store.live(), self.store.room), (live, room))
        if live + many > room or (later > live and later > room - 3):
            return "no room"
        return many

    def do(self, deed):
        wanted, image = self.wanted(deed), self.chip.image()
        self.case.assertEqual(self.store.why_not(deed), wanted if isinstance(wanted, str) else None)
        if not isinstance(wanted, str):
            self.trees.append(behind(self.trees[-1], deed))
        try:
            self.case.assertEqual(self.store.do(deed), wanted)
            self.done += 1
        except Refused as error:
            self.refused += 1
            self.case.assertEqual(error.word, wanted)
            self.case.assertEqual(self.chip.image(), image)
        except NoRoom:
            self.full += 1
            self.case.assertEqual(("no room", self.chip.image()), (wanted, image))
        self.case.assertEqual(self.store.tree(), self.trees[-1])

    def run(self, told, most, some_deed):
        """A store that is cut, worn out or stopped between two calls; what it leaves is the next one's."""
        self.begin(told)
        try:
            for _ in range(most):
                self.do(some_deed(self.luck, self.trees[-1]))
                if self.luck.random() < 0.1:
                    self.store.sync()
                    self.case.assertEqual((self.store.waiting, self.store.written), (0, len(self.trees) - 1))
        except PowerCut:
            self.cuts += 1
        except WornOut:
            self.worn += 1
            self.case.assertFalse(self.within_spare(self.chip.image()))
            self.look_at_worn()
        self.image = self.chip.image()
        self.tree = self.trees[self.look(self.image, self.cuts)]

    def look_at_worn(self):
        """Behind WornOut nothing changes any more, and the tree is still read."""
        image, waiting = self.chip.image(), self.store.waiting
        for call in (lambda: self.store.do(("cut", ("f",), 1)), lambda: self.store.do(("folder", ("q",))),
                     self.store.sync, self.store.resume):
            self.case.assertIn(refusal_of(call)[0], (WornOut, Refused, NoRoom))
        self.case.assertEqual((self.store.tree(), self.store.waiting, self.chip.image()),
                              (self.trees[-1], waiting, image))
