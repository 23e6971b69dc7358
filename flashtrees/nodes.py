"""Nodes by their numbers, and the deeds that are done with them."""

from flashtrees.notes import MOST_CELLS

ROOT = 0
MOST_NAMES = 6


class Nodes:
    """A folder is kept as a dict of numbers by names, a file as its tuple of cells; FIRST is given next."""

    def __init__(self, kept, first):
        self.kept = kept
        self.first = first

    def is_folder(self, number):
        """Whether a folder has the number."""
        return isinstance(self.kept[number], dict)

    def led_to(self, path):
        """The word by which a path stops, and the number of the node to which it leads: one of both is None."""
        number = ROOT
        for name in path:
            if not self.is_folder(number):
                return "no folder", None
            if name not in self.kept[number]:
                return "missing", None
            number = self.kept[number][name]
        return None, number

    def file_at(self, path):
        """As led_to for what is done with a file alone."""
        word, number = self.led_to(path)
        if word is None and self.is_folder(number):
            return "is folder", None
        return word, number

    def stop_of_place(self, place):
        """The word by which a place stops; None if it does not."""
        word, number = self.led_to(place[:-1])
        if word is None and not self.is_folder(number):
            return "no folder"
        return word

    def why_not_free(self, place):
        """The word by which nothing new can stand at a path; None if it can."""
        if place == ():
            return "exists"
        word = self.stop_of_place(place)
        if word is not None:
            return word
        _, number = self.led_to(place)
        return None if number is None else "exists"

    def height(self, number):
        """How many names the longest way from a node has."""
        if not self.is_folder(number):
            return 0
        return max([1 + self.height(inner) for inner in self.kept[number].values()], default=0)

    def put(self, place, number):
        """Let the place's name lead to the node of a number."""
        _, folder = self.led_to(place[:-1])
        self.kept[folder][place[-1]] = number

    def take(self, place):
        """Let the place's name be gone."""
        _, folder = self.led_to(place[:-1])
        del self.kept[folder][place[-1]]

    def put_new(self, place, node):
        """Let the place's name lead to a new node."""
        self.kept[self.first] = node
        self.put(place, self.first)
        self.first += 1


def resized(cells, length):
    """The first cells, with 0 for those behind the end."""
    return cells[:length] + (0,) * (length - len(cells))


def make_node(nodes, path, node):
    """Make a node; the word by which that is refused."""
    word = nodes.why_not_free(path)
    if word is None:
        nodes.put_new(path, node)
    return word


def write_cells(nodes, path, at, cells):
    """Write cells into a file from cell AT on; the word by which that is refused."""
    word, number = nodes.file_at(path)
    if word is not None or cells == ():
        return word
    end = at + len(cells)
    if end > MOST_CELLS:
        return "too great"
    old = nodes.kept[number]
    nodes.kept[number] = resized(old, at) + cells + old[end:]
    return None


def cut_file(nodes, path, length):
    """Give a file a length; the word by which that is refused."""
    word, number = nodes.file_at(path)
    if word is None:
        nodes.kept[number] = resized(nodes.kept[number], length)
    return word


def link_file(nodes, path, to):
    """Give a file one name more; the word by which that is refused."""
    word, number = nodes.file_at(path)
    if word is None:
        word = nodes.why_not_free(to)
    if word is None:
        nodes.put(to, number)
    return word


def remove_name(nodes, path):
    """Let a name be gone; the word by which that is refused."""
    if path == ():
        return "root"
    word, number = nodes.led_to(path)
    if word is not None:
        return word
    if nodes.is_folder(number) and len(nodes.kept[number]) > 0:
        return "not empty"
    nodes.take(path)
    return None


def why_not_moved(nodes, path, to):
    """The word by which a move is refused; None."""
    if path == ():
        return "root"
    word, number = nodes.led_to(path)
    if word is not None:
        return word
    if to == ():
        return "exists"
    is_folder = nodes.is_folder(number)
    if is_folder and len(to) > len(path) and to[:len(path)] == path:
        return "into itself"
    word = nodes.stop_of_place(to)
    if word is not None:
        return word
    _, there = nodes.led_to(to)
    if there is not None and (is_folder or nodes.is_folder(there)):
        return "exists"
    return "too deep" if len(to) + nodes.height(number) > MOST_NAMES else None


def move_node(nodes, path, to):
    """Move a node to another name; the word by which that is refused."""
    word = why_not_moved(nodes, path, to)
    if word is None:
        _, number = nodes.led_to(path)
        nodes.take(path)
        nodes.put(to, number)
    return word


def do_all(nodes, deeds):
    """Do deeds in order, up to the first one that is refused; the word by which it is."""
    for deed in deeds:
        word = do_deed(nodes, deed)
        if word is not None:
            return word
    return None


def do_deed(nodes, deed):
    """Do a deed; the word by which it is refused. Nodes amid which an "all" was refused are of no more use."""
    match deed:
        case ("folder", path):
            return make_node(nodes, path, {})
        case ("file", path):
            return make_node(nodes, path, ())
        case ("write", path, at, cells):
            return write_cells(nodes, path, at, cells)
        case ("cut", path, length):
            return cut_file(nodes, path, length)
        case ("link", path, to):
            return link_file(nodes, path, to)
        case ("remove", path):
            return remove_name(nodes, path)
        case ("move", path, to):
            return move_node(nodes, path, to)
        case ("all", deeds):
            return do_all(nodes, deeds)


def walked(node, path):
    """The pairs of a path and a node of all that a tree's node has within it, itself at PATH, in order."""
    if node[0] == "file":
        return []
    pairs = []
    for name, inner in node[1]:
        at = path + (name,)
        pairs.append((at, inner))
        pairs += walked(inner, at)
    return pairs


def nodes_of(tree):
    """The nodes of a tree, numbered 0, 1, 2 .. in the order in which they are met first."""
    kept = {ROOT: {}}
    folders = {(): ROOT}
    files = {}
    for path, node in walked(tree, ()):
        number = len(kept)
        if node[0] == "folder":
            folders[path] = number
            kept[number] = {}
        elif node[1] in files:
            number = files[node[1]]
        else:
            files[node[1]] = number
            kept[number] = node[2]
        kept[folders[path[:-1]]][path[-1]] = number
    return Nodes(kept, len(kept))


def node_from(nodes, number, files):
    """A tree's node, with those within it; FILES gets each file's number in the tree as it is met first."""
    node = nodes.kept[number]
    if not nodes.is_folder(number):
        if number not in files:
            files[number] = len(files)
        return "file", files[number], node
    return "folder", tuple([(name, node_from(nodes, node[name], files)) for name in sorted(node)])


def tree_of(nodes):
    """The tree that nodes make."""
    return node_from(nodes, ROOT, {})
