"""Heads, notes and drops: the numbers of what a page tells, there and back."""

from flashtrees.arguments import first_wrong, is_between, require_between
from flashtrees.chip import LEAST, MOST
from flashtrees.errors import InvalidBlocks, InvalidKey, InvalidTable, InvalidValue
from flashtrees.pages import GREATEST_UNIT, UNIT_WIDTH, is_unit, require_numbers, require_units

GREATEST = (1 << 32) - 1

# The first number tells which of these a page is.
HEAD = 1
NOTE = 2
DROP = 3

# The flags of a note: the last one of its deed, and one that was copied from another block.
END = 1
COPY = 2

# The first number of a key.
NAME = 1
NODE = 2
PIECE = 3

# The first number of the value of a name that is not gone.
LED = 1

# In numbers the kinds of nodes count from 1.
NODE_KINDS = ("folder", "file")
MOST_CELLS = 256
PIECE_CELLS = 16
PIECES = MOST_CELLS // PIECE_CELLS

# A sign's place in a name's units is 1 more than its index here; place 0 stands behind the name.
SIGNS = "abcdefghijklmnopqrstuvwxyz0123456789.-"
MOST_SIGNS = 9
PLACE_BASE = 40


def is_name(value):
    """Whether a value, whatever it is, is a name."""
    if not isinstance(value, str) or not 1 <= len(value) <= MOST_SIGNS:
        return False
    return all(sign in SIGNS for sign in value)


def are_cells(value, least, most):
    """Whether a value is a tuple of LEAST up to MOST cells."""
    return isinstance(value, tuple) and least <= len(value) <= most and first_wrong(value, is_unit) is None


def is_key(value):
    """Whether a value, whatever it is, is a key."""
    if not isinstance(value, tuple) or len(value) not in (2, 3) or not isinstance(value[0], str):
        return False
    kind, number, *rest = value
    if kind == "name":
        return is_between(number, 0, GREATEST) and len(rest) == 1 and is_name(rest[0])
    if not is_between(number, 1, GREATEST):
        return False
    if kind == "node":
        return len(rest) == 0
    return kind == "piece" and len(rest) == 1 and is_between(rest[0], 0, PIECES - 1)


def is_node_value(value):
    """Whether a value is the pair of a kind of node and a length that it may have."""
    if not isinstance(value, tuple) or len(value) != 2 or not isinstance(value[0], str):
        return False
    kind, length = value
    if kind == "folder":
        return is_between(length, 0, 0)
    return kind == "file" and is_between(length, 0, MOST_CELLS)


def fits(key, value):
    """Whether a note of the key can tell the value."""
    kind = key[0]
    if kind == "node":
        return is_node_value(value)
    if value is None:
        return True
    if kind == "name":
        return is_between(value, 1, GREATEST)
    return are_cells(value, 1, PIECE_CELLS)


def is_value(key, value):
    """Whether a value, whatever it is, is one that a note of the key can tell."""
    require_key(key)
    return fits(key, value)


def wrong_pair_in(pairs):
    """The index of the first element that is no pair of a key above the one before and its value; None."""
    before = None
    for index, pair in enumerate(pairs):
        if not isinstance(pair, tuple) or len(pair) != 2:
            return index
        key, value = pair
        if not is_key(key) or not fits(key, value):
            return index
        if before is not None and key <= before:
            return index
        before = key
    return None


def require_key(key):
    """InvalidKey for no key."""
    if not is_key(key):
        raise InvalidKey(key)


def require_table(table):
    """InvalidTable for no table."""
    if not isinstance(table, tuple):
        raise InvalidTable(None)
    wrong = wrong_pair_in(table)
    if wrong is not None:
        raise InvalidTable(wrong)


def greatest_node_in(pairs):
    """The greatest node number in pairs of keys and values; 0 if there are none."""
    greatest = 0
    for key, value in pairs:
        greatest = max(greatest, key[1])
        if key[0] == "name" and value is not None:
            greatest = max(greatest, value)
    return greatest


def require_blocks(blocks, many):
    """InvalidBlocks for no ascending tuple of indexes of MANY blocks."""
    if not isinstance(blocks, tuple):
        raise InvalidBlocks(None)
    least = 0
    for index, block in enumerate(blocks):
        if not is_between(block, least, many - 1):
            raise InvalidBlocks(index)
        least = block + 1


def halves(number):
    """The two units that hold a number below 2^32."""
    return number >> UNIT_WIDTH, number & GREATEST_UNIT


def joined(high, low):
    """The number that two units hold."""
    return (high << UNIT_WIDTH) | low


def name_units(name):
    """The three units of a name."""
    places = [SIGNS.index(sign) + 1 for sign in name] + [0] * (MOST_SIGNS - len(name))
    units = [(places[k] * PLACE_BASE + places[k + 1]) * PLACE_BASE + places[k + 2] for k in range(0, MOST_SIGNS, 3)]
    return tuple(units)


def name_held(units):
    """The name that units hold; None if they hold none."""
    places = []
    for unit in units:
        first, rest = divmod(unit, PLACE_BASE * PLACE_BASE)
        places += [first, rest // PLACE_BASE, rest % PLACE_BASE]
    # What is left of places behind the name's last sign is no sign, so a name has one spelling alone.
    while places and places[-1] == 0:
        places.pop()
    if any(not 1 <= place <= len(SIGNS) for place in places):
        return None
    return "".join([SIGNS[place - 1] for place in places])


def key_numbers(key):
    """The numbers of a key."""
    kind, number, *rest = key
    if kind == "name":
        return (NAME,) + halves(number) + name_units(rest[0])
    if kind == "node":
        return (NODE,) + halves(number)
    return (PIECE,) + halves(number) + (rest[0],)


def value_numbers(key, value):
    """The numbers of a key's value."""
    if value is None:
        return ()
    if key[0] == "name":
        return (LED,) + halves(value)
    if key[0] == "node":
        kind, length = value
        return NODE_KINDS.index(kind) + 1, length
    return value


def head_numbers(many, order, start, bads, erasures):
    """The numbers of a page that tells just this head."""
    require_between(many, LEAST, MOST)
    require_between(order, 1, GREATEST)
    require_between(start, 1, order)
    require_blocks(bads, many)
    require_units(erasures, many, many)
    bits = sum([1 << block for block in bads])
    return (HEAD,) + halves(order) + halves(start) + (bits, many) + erasures


def note_numbers(deed, flag, key, value):
    """The numbers of a page that tells just this note."""
    require_between(deed, 1, GREATEST)
    require_between(flag, 0, COPY)
    require_key(key)
    if not fits(key, value):
        raise InvalidValue(value)
    return (NOTE,) + halves(deed) + (flag,) + key_numbers(key) + value_numbers(key, value)


def drop_numbers(start):
    """The numbers of a page that tells just this drop."""
    require_between(start, 1, GREATEST)
    return (DROP,) + halves(start)


def head_told(many, numbers):
    """The head that numbers tell on a chip of MANY blocks; None."""
    if len(numbers) != 7 + many or numbers[6] != many:
        return None
    order, start, bits = joined(numbers[1], numbers[2]), joined(numbers[3], numbers[4]), numbers[5]
    if not 1 <= start <= order or bits >= 1 << many:
        return None
    bads = tuple([block for block in range(many) if bits >> block & 1])
    return "head", order, start, bads, numbers[7:]


def key_and_value_held(numbers):
    """What numbers hold as a key and its value; what comes of other numbers is no such pair."""
    key = value = None
    if len(numbers) < 3:
        return key, value
    kind, node, rest = numbers[0], joined(numbers[1], numbers[2]), numbers[3:]
    if kind == NAME and (len(rest) == 3 or (len(rest) == 6 and rest[3] == LED)):
        key = ("name", node, name_held(rest[:3]))
        value = None if len(rest) == 3 else joined(rest[4], rest[5])
    elif kind == NODE and len(rest) == 2 and 1 <= rest[0] <= len(NODE_KINDS):
        key = ("node", node)
        value = (NODE_KINDS[rest[0] - 1], rest[1])
    elif kind == PIECE and len(rest) > 0:
        key = ("piece", node, rest[0])
        value = None if len(rest) == 1 else rest[1:]
    return key, value


def note_told(numbers):
    """The note that numbers tell; None."""
    if len(numbers) < 4:
        return None
    deed, flag = joined(numbers[1], numbers[2]), numbers[3]
    key, value = key_and_value_held(numbers[4:])
    if deed < 1 or flag > COPY or not is_key(key) or not fits(key, value):
        return None
    return "note", deed, flag, key, value


def drop_told(numbers):
    """The drop that numbers tell; None."""
    if len(numbers) != 3:
        return None
    start = joined(numbers[1], numbers[2])
    return None if start < 1 else ("drop", start)


def told_in(many, numbers):
    """The head, note or drop that numbers tell on a chip of MANY blocks, taken as they are; None for idle ones."""
    kind = numbers[0] if numbers else 0
    if kind == HEAD:
        return head_told(many, numbers)
    if kind == NOTE:
        return note_told(numbers)
    if kind == DROP:
        return drop_told(numbers)
    return None


def told_of(many, numbers):
    """The head, note or drop that numbers tell on a chip of MANY blocks; None for idle ones."""
    require_between(many, LEAST, MOST)
    require_numbers(numbers)
    return told_in(many, numbers)
