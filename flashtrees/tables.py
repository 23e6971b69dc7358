"""Tables, taken as they are: the nodes that they tell, their live keys, and what a deed changes in them."""

from flashtrees.nodes import MOST_NAMES, ROOT, Nodes, do_deed
from flashtrees.notes import PIECE_CELLS, PIECES


def merged(table, notes):
    """The table behind notes: their values in the place of its own, and no gone keys."""
    values = {key: value for key, value in table}
    for key, value in notes:
        values[key] = value
    return tuple([(key, values[key]) for key in sorted(values) if values[key] is not None])


def pieces_joined(length, pieces):
    """The cells of a file of this length and these pieces; None if one of them goes beyond it."""
    cells = [0] * length
    for index, piece in pieces.items():
        at = PIECE_CELLS * index
        if at + len(piece) > length:
            return None
        cells[at:at + len(piece)] = piece
    return tuple(cells)


def sorted_out(table):
    """A table's kinds by nodes, the numbers of names by folders, and cells of pieces by files; gone ones left out."""
    kinds = {}
    names = {}
    pieces = {}
    for key, value in table:
        if value is None:
            continue
        if key[0] == "node":
            kinds[key[1]] = value
        else:
            rows = names if key[0] == "name" else pieces
            row = rows.setdefault(key[1], {})
            row[key[2]] = value
    return kinds, names, pieces


def kept_by(table):
    """What Nodes keep of the nodes that a table reaches; None if it is not sound."""
    kinds, names, pieces = sorted_out(table)
    kept = {ROOT: names.get(ROOT, {})}
    level = [kept[ROOT]]
    for _ in range(MOST_NAMES):
        below = []
        for folder in level:
            for number in folder.values():
                kind, length = kinds.get(number, ("missing", 0))
                if kind == "missing" or (kind == "folder" and number in kept):
                    return None
                if kind == "folder":
                    kept[number] = names.get(number, {})
                    below.append(kept[number])
                elif number not in kept:
                    kept[number] = pieces_joined(length, pieces.get(number, {}))
                    if kept[number] is None:
                        return None
        level = below
    # What is left are the folders that six names lead to.
    return None if any(level) else kept


def is_told(kept, key):
    """Whether a key that is not gone is live, if these nodes are reached."""
    if key[1] not in kept:
        return False
    return key[0] == "node" or isinstance(kept[key[1]], dict) == (key[0] == "name")


def live_part(table):
    """The pairs of a table the keys of which are live; None if it is not sound."""
    kept = kept_by(table)
    if kept is None:
        return None
    return tuple([(key, value) for key, value in table if value is not None and is_told(kept, key)])


def reached_from_root(nodes):
    """The numbers of the nodes to which names lead from the root, and its own."""
    found = {ROOT: True}
    waiting = [ROOT]
    while waiting:
        number = waiting.pop()
        if nodes.is_folder(number):
            for inner in nodes.kept[number].values():
                if inner not in found:
                    found[inner] = True
                    waiting.append(inner)
    return list(found)


def piece_of(cells, index):
    """The cells of a file's piece up to the last one that is not 0; None if there is none."""
    piece = cells[PIECE_CELLS * index:PIECE_CELLS * (index + 1)]
    end = len(piece)
    while end > 0 and piece[end - 1] == 0:
        end -= 1
    return None if end == 0 else piece[:end]


def due_in(nodes):
    """The due values of the keys of all nodes that are reached; gone names are not among them."""
    due = {}
    for number in reached_from_root(nodes):
        node = nodes.kept[number]
        if nodes.is_folder(number):
            for name, inner in node.items():
                due[("name", number, name)] = inner
            due[("node", number)] = ("folder", 0)
        else:
            due[("node", number)] = ("file", len(node))
            for index in range(PIECES):
                due[("piece", number, index)] = piece_of(node, index)
    # The root has no key of its own.
    del due[("node", ROOT)]
    return due


def notes_between(table, nodes):
    """The notes that lead from a table to what the nodes are behind a deed."""
    values = {key: value for key, value in table}
    due = due_in(nodes)
    for key in values:
        if key[0] == "name" and key not in due:
            if key[1] == ROOT or due.get(("node", key[1])) == ("folder", 0):
                due[key] = None
    return tuple([(key, due[key]) for key in sorted(due) if due[key] != values.get(key)])


def turned(table, first, deed):
    """What a deed does to a sound table: (WORD, NOTES, NEXT), NEXT being one above the last number it gave."""
    nodes = Nodes(kept_by(table), first)
    word = do_deed(nodes, deed)
    if word is not None:
        return word, (), first
    return None, notes_between(table, nodes), nodes.first
