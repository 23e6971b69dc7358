"""Trees of folders and files, and the deeds that lead from one to the next."""

from flashtrees.arguments import first_wrong, is_between, is_whole
from flashtrees.errors import InvalidDeed, InvalidPath, InvalidTree, Refused
from flashtrees.nodes import MOST_NAMES, do_deed, nodes_of, tree_of, walked
from flashtrees.notes import MOST_CELLS, are_cells, is_name

EMPTY = ("folder", ())
MOST_DEEDS = 8


def is_path(value):
    """Whether a value, whatever it is, is a path."""
    return isinstance(value, tuple) and len(value) <= MOST_NAMES and first_wrong(value, is_name) is None


def begins_with_word(value):
    """Whether a value is a tuple that begins with a text."""
    return isinstance(value, tuple) and len(value) > 0 and isinstance(value[0], str)


def is_node(value, room):
    """Whether a value is a node within which no way has more than ROOM names, whatever numbers its files have."""
    if not begins_with_word(value):
        return False
    if value[0] == "file":
        return len(value) == 3 and is_whole(value[1]) and are_cells(value[2], 0, MOST_CELLS)
    return value[0] == "folder" and len(value) == 2 and are_names(value[1], room)


def are_names(value, room):
    """Whether a value is a tuple of pairs of a name above the one before and a node, ROOM names being left."""
    if not isinstance(value, tuple) or (room == 0 and len(value) > 0):
        return False
    before = ""
    for pair in value:
        if not isinstance(pair, tuple) or len(pair) != 2:
            return False
        name, node = pair
        if not is_name(name) or name <= before or not is_node(node, room - 1):
            return False
        before = name
    return True


def are_files_numbered(tree):
    """Whether files are numbered in the order in which they are met first, and those of one number are alike."""
    met = []
    for _, node in walked(tree, ()):
        if node[0] == "file":
            _, number, cells = node
            if number == len(met):
                met.append(cells)
            elif not 0 <= number < len(met) or met[number] != cells:
                return False
    return True


def is_tree(value):
    """Whether a value, whatever it is, is a tree."""
    return is_node(value, MOST_NAMES) and value[0] == "folder" and are_files_numbered(value)


def are_deeds(value):
    """Whether a value is a tuple of deeds of which none is an "all", as many as an "all" may have."""
    if not isinstance(value, tuple) or not 1 <= len(value) <= MOST_DEEDS:
        return False
    return all(is_deed(deed) and deed[0] != "all" for deed in value)


def is_deed(value):
    """Whether a value, whatever it is, is a deed."""
    if not begins_with_word(value):
        return False
    match value:
        case ("folder" | "file" | "remove", path):
            return is_path(path)
        case ("write", path, at, cells):
            return is_path(path) and is_between(at, 0, MOST_CELLS) and are_cells(cells, 0, MOST_CELLS)
        case ("cut", path, length):
            return is_path(path) and is_between(length, 0, MOST_CELLS)
        case ("link" | "move", path, to):
            return is_path(path) and is_path(to)
        case ("all", deeds):
            return are_deeds(deeds)
    return False


def require_tree(tree):
    """InvalidTree for no tree."""
    if not is_tree(tree):
        raise InvalidTree(tree)


def require_deed(deed):
    """InvalidDeed for no deed."""
    if not is_deed(deed):
        raise InvalidDeed(deed)


def require_path(path):
    """InvalidPath for no path."""
    if not is_path(path):
        raise InvalidPath(path)


def node_at(tree, path):
    """The node to which a path leads; None."""
    require_tree(tree)
    require_path(path)
    node = tree
    for name in path:
        node = dict(node[1]).get(name) if node[0] == "folder" else None
        if node is None:
            return None
    return node


def refusal(tree, deed):
    """The word by which a deed is refused in a tree; None."""
    require_tree(tree)
    require_deed(deed)
    return do_deed(nodes_of(tree), deed)


def behind(tree, deed):
    """The tree behind a deed; Refused if it is refused."""
    require_tree(tree)
    require_deed(deed)
    nodes = nodes_of(tree)
    word = do_deed(nodes, deed)
    if word is not None:
        raise Refused(word)
    return tree_of(nodes)


def paths_of(tree):
    """The ascending tuple of the paths of all nodes but the root."""
    require_tree(tree)
    return tuple([path for path, _ in walked(tree, ())])


def links_of(tree, path):
    """The ascending tuple of all paths of the file to which a path leads; () if it leads to none."""
    node = node_at(tree, path)
    if node is None or node[0] == "folder":
        return ()
    return tuple([each for each, inner in walked(tree, ()) if inner == node])
