"""What lies on a chip, and what it means: heads, listed blocks, notes, tables."""

from flashtrees.arguments import require_between
from flashtrees.chip import require_image
from flashtrees.notes import COPY, END, greatest_node_in, require_table, told_in
from flashtrees.pages import BLANK, numbers_held, state_of

IDLE = ("idle",)


def told_by_page(many, page):
    """What a page tells on a chip of MANY blocks, as told_of does; else a tuple of its state, or of "idle"."""
    state = state_of(page)
    if state != "whole":
        return (state,)
    numbers = numbers_held(page)
    told = None if numbers is None else told_in(many, numbers)
    return IDLE if told is None else told


def with_one_head(pages):
    """What the pages of a block tell, if each one by itself tells this: a head behind the first whole page is idle."""
    told = []
    is_first = True
    for one in pages:
        told.append(IDLE if one[0] == "head" and not is_first else one)
        if one[0] not in ("blank", "half"):
            is_first = False
    return tuple(told)


def told_on(image):
    """For each block the tuple of what its pages tell; InvalidImage for no image."""
    require_image(image)
    many = len(image)
    return tuple([with_one_head([told_by_page(many, page) for page in pages]) for _, _, pages in image])


def head_in(pages):
    """The head of a block whose pages tell this; None if it has none."""
    for page in pages:
        if page[0] == "head":
            return page
    return None


def start_in(told):
    """The greatest START that heads of blocks and drops tell; 1 if there is none."""
    starts = [1]
    for pages in told:
        starts += [page[2] for page in pages if page[0] == "head"]
        starts += [page[1] for page in pages if page[0] == "drop"]
    return max(starts)


def listed_in(told):
    """The pairs (BLOCK, ORDER) of the listed blocks, in the order of their orders."""
    start = start_in(told)
    pairs = []
    for block, pages in enumerate(told):
        head = head_in(pages)
        if head is not None and head[1] >= start:
            pairs.append((head[1], block))
    return tuple([(block, order) for order, block in sorted(pairs)])


def current_head(told):
    """The head of the current block; None if no block is listed."""
    blocks = listed_in(told)
    return head_in(told[blocks[-1][0]]) if blocks else None


def notes_told(told):
    """The notes of the listed blocks, in order: (BLOCK, PAGE, DEED, FLAG, KEY, VALUE)."""
    notes = []
    for block, _ in listed_in(told):
        for page, one in enumerate(told[block]):
            if one[0] == "note":
                notes.append((block, page) + one[1:])
    return tuple(notes)


def those_counting(notes):
    """Those of the notes that count."""
    ended = {deed: True for _, _, deed, flag, _, _ in notes if flag == END}
    return tuple([note for note in notes if note[3] == COPY or note[2] in ended])


def givers_among(notes):
    """For each key of counting notes the one that gives its value."""
    givers = {}
    for note in notes:
        deed, key = note[2], note[4]
        if key not in givers or deed >= givers[key][2]:
            givers[key] = note
    return givers


def are_deeds_in_order(notes):
    """Whether no note, copies left out, lies behind its deed's end note or one of a greater deed."""
    least = 0
    for _, _, deed, flag, _, _ in notes:
        if flag == COPY:
            continue
        if deed < least:
            return False
        least = deed + 1 if flag == END else deed
    return True


def are_keys_in_order(notes):
    """Whether no counting note lies behind one of its key with a greater deed, or with the same and another value."""
    last = {}
    for _, _, deed, _, key, value in notes:
        if key in last:
            last_deed, last_value = last[key]
            if deed < last_deed or (deed == last_deed and value != last_value):
                return False
        last[key] = (deed, value)
    return True


def table_given(givers):
    """The table in which each key has the value that its giver gives: the keys ascending, gone ones too."""
    return tuple([(key, givers[key][5]) for key in sorted(givers)])


def erasures_told(head, many):
    """The erasures that a current block's head tells; 0 for each of MANY blocks without one."""
    return (0,) * many if head is None else head[4]


def bads_told(head):
    """The blocks that a current block's head tells as bad; none without one."""
    return () if head is None else head[3]


def greatest_deed_in(notes):
    """The greatest deed number of the notes; 0 if there are none."""
    return max([note[2] for note in notes], default=0)


def greatest_node_told(notes):
    """The greatest node number in keys and values of the notes; 0 if there are none."""
    return greatest_node_in([note[4:] for note in notes])


def page_behind(pages):
    """The index of the first page behind the last one that is not blank; None if there is none."""
    behind = [index + 1 for index, page in enumerate(pages) if page != BLANK]
    found = max(behind, default=0)
    return None if found == len(pages) else found


def are_in_order(blocks, notes, those):
    """Whether listed blocks, their notes and THOSE of them that count are as an orderly image has them."""
    orders = [order for _, order in blocks]
    return len(set(orders)) == len(orders) and are_deeds_in_order(notes) and are_keys_in_order(those)


def kinds_in(image):
    """For each block the tuple of a word for each page."""
    return tuple([tuple([page[0] for page in pages]) for pages in told_on(image)])


def start_of(image):
    """The START of an image."""
    return start_in(told_on(image))


def listed(image):
    """The pairs (BLOCK, ORDER) of the listed blocks, the eldest one first."""
    return listed_in(told_on(image))


def notes_in(image):
    """The notes of an image, in order: (BLOCK, PAGE, DEED, FLAG, KEY, VALUE)."""
    return notes_told(told_on(image))


def counting(image):
    """The notes of an image that count."""
    return those_counting(notes_told(told_on(image)))


def table_of(image):
    """The table of an image: the pairs (KEY, VALUE), the keys ascending, gone ones too."""
    return table_given(givers_among(counting(image)))


def told_by_table(table):
    """The pairs of a table without gone ones."""
    require_table(table)
    return tuple([(key, value) for key, value in table if value is not None])


def next_page(image, block):
    """The page of a block that is programmed next; None if there is none."""
    require_image(image)
    require_between(block, 0, len(image) - 1)
    return page_behind(image[block][2])


def greatest_deed(image):
    """The greatest deed number of the notes; 0 if there are none."""
    return greatest_deed_in(notes_in(image))


def greatest_node(image):
    """The greatest node number in keys and values of the notes; 0 if there are none."""
    return greatest_node_told(notes_in(image))


def known_erasures(image):
    """The erasures of all blocks, as the current block's head tells them; 0 for each without one."""
    return erasures_told(current_head(told_on(image)), len(image))


def known_bads(image):
    """The blocks that the current block's head tells as bad; none without one."""
    return bads_told(current_head(told_on(image)))


def is_orderly(image):
    """Whether an image is orderly."""
    told = told_on(image)
    notes = notes_told(told)
    return are_in_order(listed_in(told), notes, those_counting(notes))
