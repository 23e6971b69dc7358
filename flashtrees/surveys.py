"""Surveys: the pages of a chip as they were read last, and what they mean."""

from flashtrees.notes import COPY
from flashtrees.pages import has_low_check
from flashtrees.reading import (are_in_order, bads_told, erasures_told, givers_among, greatest_deed_in,
                                greatest_node_told, head_in, listed_in, notes_told, page_behind, start_in, table_given,
                                those_counting, told_by_page, with_one_head)
from flashtrees.tables import kept_by, live_part, merged


class Survey:
    """What pages tell; what follows from it is found when it is asked for, and kept till a page is read anew."""

    def __init__(self, blocks):
        self.many_blocks = len(blocks)
        self.many_pages = len(blocks[0])
        self._blocks = list(blocks)
        self._alone = [self._told_alone(pages) for pages in blocks]
        self._told = [with_one_head(alone) for alone in self._alone]
        self._find_listed()

    def take_block(self, block, pages):
        """Take the pages of a block as they were read anew."""
        self._blocks[block] = pages
        self._alone[block] = self._told_alone(pages)
        self._told[block] = with_one_head(self._alone[block])
        self._find_listed()

    def take_page(self, block, page, word):
        """Take a page as it was read anew."""
        pages, alone = self._blocks[block], self._alone[block]
        told = told_by_page(self.many_blocks, word)
        self._blocks[block] = pages[:page] + (word,) + pages[page + 1:]
        self._alone[block] = alone[:page] + (told,) + alone[page + 1:]
        self._told[block] = with_one_head(self._alone[block])
        self._find_listed()

    def is_listed(self, block):
        """Whether a block is listed."""
        return block in self._orders

    def last_order(self):
        """The order of the last listed block; None if no block is listed."""
        return None if self.current is None else self._orders[self.current]

    def told_erasures(self):
        """The erasures of all blocks as the current block's head tells them."""
        return erasures_told(self._current_head(), self.many_blocks)

    def told_bads(self):
        """The blocks that the current block's head tells as bad."""
        return bads_told(self._current_head())

    def next_page(self, block):
        """The page of a block that is programmed next; None if there is none."""
        return page_behind(self._blocks[block])

    def page(self, block, page):
        """A page as it was read last."""
        return self._blocks[block][page]

    def notes(self):
        """The notes of the listed blocks, in order."""
        if self._notes is None:
            self._notes = notes_told(self._told)
        return self._notes

    def counting(self):
        """Those of the notes that count."""
        if self._counting is None:
            self._counting = those_counting(self.notes())
        return self._counting

    def table(self):
        """The table without gone keys."""
        if self._table is None:
            self._table = merged(table_given(givers_among(self.counting())), ())
        return self._table

    def live(self):
        """The pairs of the table the keys of which are live."""
        if self._live is None:
            self._live = live_part(self.table())
        return self._live

    def givers(self):
        """The notes that give the live keys their values, in order."""
        given = givers_among(self.counting())
        places = {given[key][:2]: True for key, _ in self.live()}
        return [note for note in self.counting() if note[:2] in places]

    def greatest_deed(self):
        """The greatest deed number of the notes; 0 if there are none."""
        return greatest_deed_in(self.notes())

    def greatest_node(self):
        """The greatest node number in keys and values of the notes; 0 if there are none."""
        return greatest_node_told(self.notes())

    def is_orderly(self):
        """Whether the pages are those of an orderly image."""
        return are_in_order(self.listed, self.notes(), self.counting())

    def kept_nodes(self):
        """What Nodes keep of the nodes that the image opens to; None if it does not open."""
        return kept_by(self.table()) if self.is_orderly() else None

    def may_erase(self, block):
        """Whether a block may be erased: whatever an erase leaves of it, the table, and so the tree, stays."""
        others = [pages for index, pages in enumerate(self._told) if index != block]
        if start_in(others) != self.start:
            return False
        heads = [one for one in self._alone[block] if one[0] == "head"]
        if len(heads) != (0 if head_in(self._told[block]) is None else 1):
            return False
        if any([has_low_check(page) for page in self._blocks[block]]):
            return False
        return not self.is_listed(block) or self._tells_nothing_alone(block)

    def _tells_nothing_alone(self, block):
        """Whether a listed block has no drop, and all that counts in it are copies of what others tell."""
        if any([one[0] == "drop" for one in self._told[block]]):
            return False
        elsewhere = {(note[2], note[4], note[5]): True for note in self.counting() if note[0] != block}
        here = [note for note in self.counting() if note[0] == block]
        return all([note[3] == COPY and (note[2], note[4], note[5]) in elsewhere for note in here])

    def _told_alone(self, pages):
        """What each page of a block tells by itself."""
        return tuple([told_by_page(self.many_blocks, page) for page in pages])

    def _current_head(self):
        return None if self.current is None else head_in(self._told[self.current])

    def _find_listed(self):
        """Find what hangs on heads and drops alone; forget what hangs on notes."""
        self.start = start_in(self._told)
        self.listed = listed_in(self._told)
        self.current = self.listed[-1][0] if self.listed else None
        self._orders = {block: order for block, order in self.listed}
        self._notes = None
        self._counting = None
        self._table = None
        self._live = None


def survey_of(image):
    """The survey of an image's pages."""
    return Survey([pages for _, _, pages in image])
