"""A store: a tree on a chip, deeds that wait and are written in order, whatever is cut."""

from flashtrees.arguments import is_between, require_between
from flashtrees.chip import Chip, require_image, require_luck
from flashtrees.errors import InvalidDeed, InvalidNumber, NoRoom, NotOrderly, PowerCut, Refused, WornOut
from flashtrees.notes import MOST_CELLS
from flashtrees.shelf import Shelf, require_spare
from flashtrees.surveys import survey_of
from flashtrees.tables import kept_by, live_part, merged, turned
from flashtrees.trees import is_deed, node_at, require_deed, require_path
from flashtrees.turning import GREATEST_FIRST, tree_kept

MOST_HELD = 300
MOST_PLAYED = 30
# A deed that makes live keys more leaves so much room, so a deed that makes them no more always finds some.
LEFT_FREE = 3


def is_held(value):
    """Whether a value is a HELD."""
    return is_between(value, 0, MOST_HELD)


def require_held(held):
    """InvalidNumber for no HELD."""
    if not is_held(held):
        raise InvalidNumber(held)


def are_few(value):
    """Whether a value is a tuple of no more elements than deeds are played."""
    return isinstance(value, tuple) and len(value) <= MOST_PLAYED


def are_played(value):
    """Whether a value is a tuple of deeds that can be played."""
    return are_few(value) and all([is_deed(deed) for deed in value])


def require_deeds(deeds):
    """InvalidDeed for what are no deeds that can be played: with the first element that is none, or the whole value."""
    if not are_few(deeds):
        raise InvalidDeed(deeds)
    for deed in deeds:
        require_deed(deed)


def require_open(image):
    """NotOrderly if an image does not open."""
    if opened_tree(image) is None:
        raise NotOrderly()


def planned(table, first, deed):
    """What a deed would do to a store's table: (WORD, NOTES, NEXT, BEHIND), BEHIND being what lives behind it."""
    word, notes, later_first = turned(table, first, deed)
    return word, notes, later_first, live_part(merged(table, notes))


class Store:
    """The table behind all deeds done, live keys alone, and those of the deeds that are not written yet."""

    def __init__(self, chip, spare, held):
        many, _ = chip.size()
        require_spare(spare, many)
        require_held(held)
        self._chip = chip
        self._shelf = Shelf(chip, spare)
        self._held = held
        self._table = self._shelf.live_table()
        self._first = self._shelf.greatest_node() + 1
        self._queue = []
        self._pauses = 0
        self._waiting = 0
        self._done = 0
        self._written = 0
        self._is_worn = False
        self._room = self._shelf.room

    @property
    def room(self):
        """How many live keys and notes of a deed there may be together."""
        return self._room

    @property
    def waiting(self):
        """How many notes wait."""
        return self._waiting

    @property
    def done(self):
        """How many deeds were done since the opening."""
        return self._done

    @property
    def written(self):
        """How many deeds were written to their end since the opening."""
        return self._written

    def live(self):
        """How many live keys the table has."""
        self._require_power()
        return len(self._table)

    def do(self, deed):
        """Do a deed; how many notes it has."""
        require_deed(deed)
        self._require_power()
        word, notes, later_first, later = planned(self._table, self._first, deed)
        if word is not None:
            raise Refused(word)
        if not self._has_room(notes, later):
            raise NoRoom()
        if self._is_worn or (later_first > self._first and self._first > GREATEST_FIRST):
            raise WornOut()
        self._table = later
        self._first = later_first
        self._queue.append(notes)
        self._waiting += len(notes)
        self._done += 1
        self._write_surplus()
        return len(notes)

    def sync(self):
        """Write all that waits; how many deeds that were."""
        self._require_power()
        if self._is_worn:
            raise WornOut()
        many = len(self._queue)
        while self._queue:
            self._write_first()
        return many

    def why_not(self, deed):
        """The word by which a deed would be refused now, "no room", or None."""
        require_deed(deed)
        self._require_power()
        word, notes, _, later = planned(self._table, self._first, deed)
        if word is None and not self._has_room(notes, later):
            return "no room"
        return word

    def tree(self):
        """The tree behind all deeds done."""
        self._require_power()
        return tree_kept(kept_by(self._table))

    def names(self, path):
        """The ascending tuple of the names in a folder; None if the path leads to none."""
        require_path(path)
        node = node_at(self.tree(), path)
        if node is None or node[0] != "folder":
            return None
        return tuple([name for name, _ in node[1]])

    def cells(self, path, at, many):
        """Up to MANY cells of a file from cell AT on; None if the path leads to no file."""
        require_path(path)
        require_between(at, 0, MOST_CELLS)
        require_between(many, 0, MOST_CELLS)
        node = node_at(self.tree(), path)
        if node is None or node[0] != "file":
            return None
        return node[2][at:at + many]

    def pause(self):
        """Begin a pause, in which deeds are written by a sync alone."""
        self._require_power()
        self._pauses += 1

    def resume(self):
        """End the pause that was begun last; how many deeds are written behind it."""
        self._require_power()
        if self._is_worn:
            raise WornOut()
        self._pauses = max(0, self._pauses - 1)
        return self._write_surplus()

    def _require_power(self):
        if self._chip.is_cut():
            raise PowerCut()

    def _has_room(self, notes, later):
        """Whether there is room for the notes of a deed, and LATER, what lives behind it, leaves room for more."""
        live = len(self._table)
        return live + len(notes) <= self._room and len(later) <= max(live, self._room - LEFT_FREE)

    def _write_surplus(self):
        """Write deeds as long as more notes wait than may; how many deeds that were."""
        many = 0
        while self._pauses == 0 and self._waiting > self._held:
            self._write_first()
            many += 1
        return many

    def _write_first(self):
        """Write the first deed that waits."""
        notes = self._queue[0]
        if notes != ():
            try:
                self._shelf.do(notes)
            except WornOut:
                self._is_worn = True
                raise
        self._queue.pop(0)
        self._waiting -= len(notes)
        self._written += 1


def opened_tree(image):
    """The tree that an image opens to; None if it does not open."""
    require_image(image)
    kept = survey_of(image).kept_nodes()
    return None if kept is None else tree_kept(kept)


def done_in(store, deed):
    """Do a deed unless it is refused or has no room; whether it was done."""
    try:
        store.do(deed)
    except (Refused, NoRoom):
        return False
    return True


def played(image, luck, spare, held, deeds):
    """What is left behind deeds in a new store and a sync, which deeds were done, and how it ended."""
    require_image(image)
    require_luck(luck)
    require_spare(spare, len(image))
    require_held(held)
    require_deeds(deeds)
    chip = Chip(image, luck)
    store = Store(chip, spare, held)
    done = []
    ended = "synced"
    try:
        for index, deed in enumerate(deeds):
            if done_in(store, deed):
                done.append(index)
        store.sync()
    except PowerCut:
        ended = "cut"
    except WornOut:
        ended = "worn out"
    return chip.image(), tuple(done), ended
