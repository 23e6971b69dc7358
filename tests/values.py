"""Good and bad names, keys, values, pairs, cells, paths, deeds and trees, those at the edges among them."""

from tests.support import GREAT, NO_NUMBERS, NO_TUPLES, Alike, nested, wrong_numbers

GREATEST = 2 ** 32 - 1
NO_FILE = ("file", 0, ())
REMOVE = ("remove", ("a",))


def folder_of(*pairs):
    return ("folder", tuple(pairs))


def deep(many, node):
    """Folders one within the other, MANY names deep, around a node."""
    for _ in range(many):
        node = folder_of(("a", node))
    return node


BAD_NAMES = [
    None, True, False, 0, 1, -1, "", "abcdefghij", "A", "aB", "a_", "a b", " a", "a\n", "\n", "a/b", "/", "\u00e4",
    "\uff11", "\u0661", "\x00", "\ud800", "a" * 999, b"", b"a", b"abc", (), ("a",), ["a"], [], {"a": 1}, {"a"},
    object(), len, Alike(), nested(30)]
GOOD_NAMES = list("abcdefghijklmnopqrstuvwxyz0123456789.-") + ["..", "a.b", "zzzzzzzzz", "---------", "a-b.c9", "ab"]

GOOD_KEYS = [("name", 0, "a"), ("name", GREATEST, "-.az09zz9"), ("node", 1), ("node", GREATEST), ("piece", 1, 0),
             ("piece", GREATEST, 15)]
BAD_KEYS = NO_NUMBERS + [
    0, -1, GREAT, "name", "node", (None, 1), (b"name", 0, "a"), (b"node", 1), ("", 1), ("Node", 1), ("name",),
    ("node",), ("piece",), ("name", 0), ("name", 0, "a", None), ("node", 1, None), ("node", 1, "a"), ("piece", 1),
    ("piece", 1, 0, 0), ("folder", 1), ("file", 1), ("head", 1), ["name", 0, "a"], ["node", 1], ["piece", 1, 0],
    ("node", 0), ("piece", 0, 0), (Alike(), 1), (Alike(), 1, 0), (("name",), 0, "a"),
    (Alike(), 1, "a"), ("file", 1, 0), ("folder", 1, "a"), ("Piece", 1, 0)]
BAD_KEYS += [("name", 0, value) for value in BAD_NAMES]
BAD_KEYS += [("name", value, "a") for value in wrong_numbers(0, GREATEST)]
BAD_KEYS += [("node", value) for value in wrong_numbers(1, GREATEST)]
BAD_KEYS += [("piece", value, 0) for value in wrong_numbers(1, GREATEST)]
BAD_KEYS += [("piece", 1, value) for value in wrong_numbers(0, 15)]

BAD_CELLS = [(value,) for value in wrong_numbers(0, 65535)]
BAD_CELLS += [(0,) * 7 + (value, 0) for value in wrong_numbers(0, 65535)]
GOOD_VALUES = {
    "name": [None, 1, 2, GREATEST],
    "node": [("folder", 0), ("file", 0), ("file", 1), ("file", 256)],
    "piece": [None, (0,), (65535,), tuple(range(16)), (0,) * 16, (65535,) * 16],
}
BAD_VALUES = {
    "name": [value for value in wrong_numbers(1, GREATEST) if value is not None] + [("folder", 0), nested(35)],
    "node": NO_NUMBERS + [
        0, 1, GREAT, "folder", (), ("folder",), ("file",), ("file", 1, 1), ("folder", 1), ("folder", 256),
        ("folder", -1), ("folder", False), ("folder", None), ("File", 1), (b"file", 1), (1, 1), ["file", 1],
        ("name", 1), (Alike(), 0), ("folder", Alike()), ("", 0)] + [("file", value) for value in wrong_numbers(0, 256)],
    "piece": [value for value in NO_TUPLES if value is not None] + BAD_CELLS + [
        (), (0,) * 17, (1,) * 1000, [1, 2], (nested(30),)],
}
PAIRS = ((("name", 0, "a"), 1), (("node", 1), ("file", 3)), (("piece", 1, 0), None), (("piece", 1, 1), (7,)))
BAD_PAIRS = NO_TUPLES + [
    (), (("node", 1),), (("node", 1), ("file", 1), 1), [("node", 1), ("file", 1)], ("node", 1), (("node", 1), None),
    (("name", 0, "a"), 0), (("piece", 1, 0), ()), (("node", 0), ("file", 1)), (None, None), (Alike(), 1), (1, 1),
    nested(38)]

GOOD_PATHS = [(), ("a",), ("zzzzzzzzz",), ("a",) * 6, (".", "..", "-", "--", "0", "a-b.c9")]
BAD_PATHS = NO_TUPLES + [["a"], ["a", "b"], ("a",) * 7, ("a",) * 1000, (None,), ("a", 1), (("a",),), nested(40)]
BAD_PATHS += [(value,) for value in BAD_NAMES] + [("a", "b", value, "c") for value in BAD_NAMES]
BAD_PATHS += [("a",) * 5 + (value,) for value in BAD_NAMES]

GOOD_DEEDS = [
    ("folder", ()), ("folder", ("a",)), ("folder", ("a",) * 6), ("file", ()), ("file", ("a", "b")),
    ("file", ("-",) * 6), ("write", (), 0, ()), ("write", ("a",), 256, (0,) * 256), ("write", ("a",), 0, (65535,)),
    ("cut", (), 0), ("cut", ("a",), 256), ("link", (), ()), ("link", ("a",), ("b",)),
    ("link", ("a",) * 6, ("b",) * 6), ("remove", ()), ("remove", ("a",) * 6), ("move", (), ()),
    ("move", ("a",), ("a",)), ("move", ("a",) * 6, ("b",) * 6)]
GOOD_DEEDS += [("all", (deed,)) for deed in GOOD_DEEDS]
GOOD_DEEDS += [("all", tuple(GOOD_DEEDS[:8])), ("all", tuple(GOOD_DEEDS[11:19]))]
BAD_PLAIN_DEEDS = NO_TUPLES + [
    (), ("folder",), ("file",), ("write",), ("cut",), ("link",), ("remove",), ("move",), ("all",), ("sync",), ("a",),
    (None,), ("Folder", ("a",)), ("rename", ("a",), ("b",)), ("folder", ("a",), ("b",)), ("remove", ("a",), ("b",)),
    ("", ("a",)), ("write", ("a",), 0), ("write", ("a",), 0, (), ()), ("write", ("a",), (), 0), ("cut", ("a",)),
    ("cut", ("a",), 0, 0), ("link", ("a",)), ("link", ("a",), ("b",), ("c",)), ("move", ("a",)),
    ("move", ("a",), ("b",), ("c",)), (b"folder", ("a",)), (b"remove", ("a",)), ["folder", ("a",)],
    ["remove", ("a",)], (Alike(), ("a",)), ("all", ("remove", ("a",))), ("all", ()), ("folder", "a"),
    ("remove", "/a"), ("write", ("a",), 0, 7), nested(40)]
BAD_PLAIN_DEEDS += [(word, value) for word in ("folder", "file", "remove") for value in BAD_PATHS]
BAD_PLAIN_DEEDS += [(word, value, ("a",)) for word in ("link", "move") for value in BAD_PATHS]
BAD_PLAIN_DEEDS += [(word, ("a",), value) for word in ("link", "move") for value in BAD_PATHS]
BAD_PLAIN_DEEDS += [("write", value, 0, (1,)) for value in BAD_PATHS] + [("cut", value, 0) for value in BAD_PATHS]
BAD_PLAIN_DEEDS += [("write", ("a",), value, (1,)) for value in wrong_numbers(0, 256)]
BAD_PLAIN_DEEDS += [("cut", ("a",), value) for value in wrong_numbers(0, 256)]
BAD_PLAIN_DEEDS += [("write", ("a",), 0, value) for value in NO_TUPLES + BAD_CELLS + [(0,) * 257, (1,) * 1000, [1]]]
BAD_DEEDS = BAD_PLAIN_DEEDS + [("all", value) for value in NO_TUPLES + [[REMOVE], REMOVE, (REMOVE,) * 9]]
BAD_DEEDS += [("all", (value,)) for value in BAD_PLAIN_DEEDS]
BAD_DEEDS += [("all", (REMOVE,) * 7 + (value,)) for value in BAD_PLAIN_DEEDS]
BAD_DEEDS += [("all", (("all", (REMOVE,)),)), ("all", (REMOVE, ("all", (REMOVE,)))), ("all", (REMOVE,), ())]

GOOD_TREES = [
    folder_of(), folder_of(("a", folder_of())), folder_of(("a", NO_FILE)),
    folder_of(("a", ("file", 0, (65535,) * 256))), folder_of(("a", NO_FILE), ("b", NO_FILE), ("c", ("file", 1, ()))),
    deep(6, NO_FILE), deep(6, folder_of()),
    folder_of(("-", NO_FILE), (".", ("file", 1, ())), ("0", ("file", 2, ())), ("9", folder_of()), ("a", NO_FILE)),
    folder_of(("a", folder_of(("x", NO_FILE), ("y", ("file", 1, ())))), ("b", NO_FILE), ("c", ("file", 2, (1,)))),
    folder_of(("a", ("file", 0, (5,))), ("b", ("file", 1, (5,))), ("c", ("file", 0, (5,))), ("d", ("file", 1, (5,))))]
BAD_NODES = NO_TUPLES + [
    (), ("file",), ("file", 0), ("file", 0, (), ()), ("folder",), ("folder", (), ()), ("File", 0, ()), ("Folder", ()),
    ("", ()), (b"folder", ()), (b"file", 0, ()), ["folder", ()], ["file", 0, ()], ("folder", 0), ("folder", None),
    ("folder", []), ("folder", {}), ("folder", ""), ("file", 0, 7), ("file", (), 0), ("name", 0, ()), (Alike(), ()),
    (Alike(), 0, ()), ("file", 0, [1]), ("file", 0, (0,) * 257), ("file", 0, (1,) * 1000), ("file", 0, Alike()),
    ("folder", Alike()), ("folder", ("a", NO_FILE)), ("folder", (("a",),)), ("folder", (("a", NO_FILE, 0),)),
    ("folder", (["a", NO_FILE],)), ("folder", (None,)), ("folder", ((),)), ("folder", (Alike(),)),
    ("folder", ((Alike(), NO_FILE),)), nested(34)]
BAD_NODES += [("file", value, ()) for value in NO_NUMBERS + [-1, -GREAT, 2, GREAT]]
BAD_NODES += [("file", 0, value) for value in BAD_CELLS] + [folder_of((value, NO_FILE)) for value in BAD_NAMES]
BAD_NODES += [folder_of(("a", NO_FILE), ("a", NO_FILE)), folder_of(("b", NO_FILE), ("a", NO_FILE)),
              folder_of(("a", NO_FILE), ("c", NO_FILE), ("b", NO_FILE)), folder_of(("a", NO_FILE), ("-", NO_FILE))]
BAD_TREES = BAD_NODES + [NO_FILE, ("file", 0, (1,)), deep(7, NO_FILE), deep(7, folder_of()), deep(12, NO_FILE)]
BAD_TREES += [folder_of(("a", node)) for node in BAD_NODES] + [deep(6, node) for node in BAD_NODES]
BAD_TREES += [folder_of(("a", NO_FILE), ("b", node)) for node in BAD_NODES]
BAD_TREES += [
    folder_of(("a", ("file", 1, ()))), folder_of(("a", ("file", 1, ())), ("b", NO_FILE)),
    folder_of(("a", NO_FILE), ("b", ("file", 0, (0,)))),
    folder_of(("a", ("file", 0, (1,))), ("b", ("file", 0, (2,)))),
    folder_of(("a", NO_FILE), ("b", ("file", 1, ())), ("c", ("file", 0, (5,)))),
    folder_of(("a", NO_FILE), ("b", ("file", 1, (5,))), ("c", ("file", 1, ()))),
    folder_of(("a", NO_FILE), ("b", ("file", 1, ())), ("c", ("file", 3, ()))),
    folder_of(("a", folder_of(("x", ("file", 1, ())))), ("b", NO_FILE)),
    folder_of(("a", folder_of(("x", NO_FILE), ("y", ("file", 2, ())))), ("b", ("file", 1, ())))]
