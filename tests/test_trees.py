"""Trees and deeds: [D1] and [D2], as flashtrees/trees.py tells them."""

import unittest

from flashtrees.errors import Refused
from flashtrees.trees import EMPTY, behind, is_deed, is_path, is_tree, links_of, node_at, paths_of, refusal
from tests.models import Model, some_deed, some_path
from tests.support import FlashCase, nested, seeded
from tests.values import (BAD_DEEDS, BAD_NODES, BAD_PATHS, BAD_TREES, GOOD_DEEDS, GOOD_PATHS, GOOD_TREES, NO_FILE, deep,
                          folder_of)

A, B, C = ("a",), ("b",), ("c",)
AX, AY, BX = ("a", "x"), ("a", "y"), ("b", "x")


def after(*deeds, tree=EMPTY):
    """The tree behind deeds that are done one by one."""
    for deed in deeds:
        tree = behind(tree, deed)
    return tree


def lone(cells):
    """The tree of one file a with these cells."""
    return folder_of(("a", ("file", 0, cells)))


# A folder a with the files x and y, a folder b, a file f of three cells with the links g and a/h.
TREE = after(("folder", A), ("folder", B), ("file", AX), ("file", AY), ("file", ("f",)),
             ("write", ("f",), 0, (1, 2, 3)), ("link", ("f",), ("g",)), ("link", ("g",), ("a", "h")))


class FormsTest(unittest.TestCase):
    def test_empty(self):
        self.assertEqual(EMPTY, ("folder", ()))
        self.assertIs(is_tree(EMPTY), True)

    def test_trees(self):
        for tree in GOOD_TREES + [TREE]:
            self.assertIs(is_tree(tree), True, tree)
        for value in BAD_TREES:
            self.assertIs(is_tree(value), False, value)

    def test_a_wrong_node_anywhere(self):
        for node in BAD_NODES:
            inner = folder_of(("x", folder_of(("y", node))))
            for tree in (folder_of(("-", node), ("a", EMPTY)), folder_of(("a", inner)),
                         folder_of(("a", EMPTY), ("b", folder_of(("c", node), ("d", NO_FILE))))):
                self.assertIs(is_tree(tree), False, tree)

    def test_ways_of_six_names(self):
        for many in range(12):
            self.assertIs(is_tree(deep(many, folder_of())), many <= 6)
            self.assertIs(is_tree(folder_of(("a", folder_of()), ("b", deep(many, folder_of())))), many <= 5)
            if many > 0:
                self.assertIs(is_tree(deep(many, NO_FILE)), many <= 6)

    def test_up_to_256_cells(self):
        for many in (0, 1, 255, 256, 257, 300):
            self.assertIs(is_tree(folder_of(("a", ("file", 0, (7,) * many)))), many <= 256)

    def test_names_ascend_as_python_compares_them(self):
        names = sorted(["a", "aa", "a-", "a.", "a0", "b", "-", ".", "0", "z", "9"])
        self.assertIs(is_tree(folder_of(*[(name, folder_of()) for name in names])), True)
        for index in range(len(names) - 1):
            swapped = names[:index] + [names[index + 1], names[index]] + names[index + 2:]
            self.assertIs(is_tree(folder_of(*[(name, folder_of()) for name in swapped])), False)
            twice = names[:index + 1] + names[index:]
            self.assertIs(is_tree(folder_of(*[(name, folder_of()) for name in twice])), False)

    def test_all_numberings_of_four_files(self):
        """A numbering is right if each number is told before or is the next one."""
        right = 0
        for code in range(4 ** 4):
            numbers = [code // 4 ** place % 4 for place in range(4)]
            first, second, third, fourth = [("file", number, (number,)) for number in numbers]
            inner = folder_of(("x", first), ("y", folder_of(("z", second))))
            tree = folder_of(("a", inner), ("b", third), ("c", fourth))
            met = all(number <= len(set(numbers[:place])) for place, number in enumerate(numbers))
            self.assertIs(is_tree(tree), met)
            right += met
        self.assertEqual(right, 15)

    def test_files_of_one_number_have_the_same_cells(self):
        for cells in ((), (0,), (1, 2), (1, 2, 0)):
            for other in ((), (0,), (1, 2), (1, 2, 0)):
                tree = folder_of(("a", ("file", 0, cells)), ("b", folder_of(("c", ("file", 0, other)))))
                self.assertIs(is_tree(tree), cells == other)
                tree = folder_of(("a", ("file", 0, cells)), ("b", folder_of(("c", ("file", 1, other)))))
                self.assertIs(is_tree(tree), True)

    def test_paths(self):
        for path in GOOD_PATHS:
            self.assertIs(is_path(path), True, path)
        for value in BAD_PATHS:
            self.assertIs(is_path(value), False, value)
        for many in range(10):
            self.assertIs(is_path(A * many), many <= 6)

    def test_deeds(self):
        for deed in GOOD_DEEDS:
            self.assertIs(is_deed(deed), True, deed)
        for value in BAD_DEEDS:
            self.assertIs(is_deed(value), False, value)

    def test_the_bounds_of_deeds(self):
        for number in (-1, 0, 1, 255, 256, 257):
            self.assertIs(is_deed(("write", A, number, ())), 0 <= number <= 256)
            self.assertIs(is_deed(("cut", A, number)), 0 <= number <= 256)
        for many in (0, 1, 256, 257):
            self.assertIs(is_deed(("write", A, 0, (1,) * many)), many <= 256)
        for many in range(12):
            self.assertIs(is_deed(("all", (("remove", A),) * many)), 1 <= many <= 8)

    def test_all_words_with_all_numbers_of_arguments(self):
        forms = {"folder": (A,), "file": (A,), "write": (A, 0, ()), "cut": (A, 0), "link": (A, B), "remove": (A,),
                 "move": (A, B), "all": ((("remove", A),),)}
        for word in forms:
            for other, rest in forms.items():
                self.assertIs(is_deed((word,) + rest), len(forms[word]) == len(rest) and self.alike(word, other))
            self.assertIs(is_deed((word,)), False)
            self.assertIs(is_deed((word,) + forms[word] + (A,)), False)

    def alike(self, word, other):
        same = (("folder", "file", "remove"), ("link", "move"))
        return word == other or any(word in words and other in words for words in same)

    def test_arguments_by_name(self):
        self.assertIs(is_tree(value=EMPTY), True)
        self.assertIs(is_deed(value=("remove", ())), True)
        self.assertIs(is_path(value=()), True)
        self.assertEqual(node_at(path=(), tree=EMPTY), EMPTY)
        self.assertEqual(refusal(deed=("remove", ()), tree=EMPTY), "root")
        self.assertEqual(behind(deed=("folder", A), tree=EMPTY), folder_of(("a", EMPTY)))
        self.assertEqual((paths_of(tree=EMPTY), links_of(path=(), tree=EMPTY)), ((), ()))

    def test_deeply_nested_values(self):
        for depth in range(41):
            for is_one in (is_tree, is_deed):
                self.assertIs(is_one(nested(depth)), False)
            self.assertIs(is_path(nested(depth)), depth == 0)


class AskTest(unittest.TestCase):
    def test_the_tree(self):
        f = ("file", 0, (1, 2, 3))
        inner = folder_of(("h", f), ("x", ("file", 1, ())), ("y", ("file", 2, ())))
        self.assertEqual(TREE, folder_of(("a", inner), ("b", EMPTY), ("f", f), ("g", f)))

    def test_node_at(self):
        self.assertEqual(node_at(TREE, ()), TREE)
        self.assertEqual(node_at(TREE, A), TREE[1][0][1])
        self.assertEqual(node_at(TREE, B), EMPTY)
        self.assertEqual(node_at(TREE, AY), ("file", 2, ()))
        self.assertEqual([node_at(TREE, path) for path in (("f",), ("g",), ("a", "h"))], [("file", 0, (1, 2, 3))] * 3)
        for path in (C, ("a", "z"), ("z", "a"), ("f", "a"), ("f", "f"), ("b", "a"), ("a", "x", "y"), A * 6):
            self.assertIsNone(node_at(TREE, path))

    def test_paths_of(self):
        self.assertEqual(paths_of(EMPTY), ())
        self.assertEqual(paths_of(TREE), (A, ("a", "h"), AX, AY, B, ("f",), ("g",)))
        self.assertEqual(paths_of(deep(6, NO_FILE)), tuple([A * many for many in range(1, 7)]))

    def test_paths_ascend_as_tuples_compare(self):
        paths = (("a",), ("a", "b"), ("a", "b", "c"), ("a-",), ("a-", "b"), ("a.",), ("ab",))
        tree = after(*[("folder", path) for path in paths])
        self.assertEqual(paths_of(tree), tuple(sorted(paths_of(tree))))
        self.assertEqual(len(paths_of(tree)), 7)

    def test_links_of(self):
        for path in (("f",), ("g",), ("a", "h")):
            self.assertEqual(links_of(TREE, path), (("a", "h"), ("f",), ("g",)))
        self.assertEqual(links_of(TREE, AX), (AX,))
        for path in ((), A, B, C, ("f", "a"), ("a", "x", "y")):
            self.assertEqual(links_of(TREE, path), ())

    def test_equal_files_are_no_links(self):
        tree = after(("file", A), ("file", B), ("link", A, C))
        self.assertEqual([links_of(tree, path) for path in (A, B, C)], [(A, C), (B,), (A, C)])


class DoneTest(unittest.TestCase):
    def assert_behind(self, tree, deed, told):
        self.assertIsNone(refusal(tree, deed))
        self.assertEqual(behind(tree, deed), told)
        self.assertIs(is_tree(told), True)

    def test_folder_and_file(self):
        self.assert_behind(EMPTY, ("folder", A), folder_of(("a", EMPTY)))
        self.assert_behind(EMPTY, ("file", A), folder_of(("a", NO_FILE)))
        self.assert_behind(folder_of(("b", EMPTY)), ("file", ("b", "a")), folder_of(("b", folder_of(("a", NO_FILE)))))
        self.assert_behind(deep(5, EMPTY), ("file", A * 6), deep(6, NO_FILE))
        self.assert_behind(deep(5, EMPTY), ("folder", A * 6), deep(6, EMPTY))

    def test_files_are_numbered_anew(self):
        tree = after(("file", B), ("write", B, 0, (7,)), ("file", A))
        self.assertEqual(tree, folder_of(("a", ("file", 0, ())), ("b", ("file", 1, (7,)))))
        self.assert_behind(tree, ("remove", A), folder_of(("b", ("file", 0, (7,)))))
        self.assert_behind(tree, ("move", A, C), folder_of(("b", ("file", 0, (7,))), ("c", ("file", 1, ()))))
        self.assert_behind(tree, ("link", B, ("-",)), folder_of(
            ("-", ("file", 0, (7,))), ("a", ("file", 1, ())), ("b", ("file", 0, (7,)))))

    def test_write(self):
        for old, at, cells, new in (
                ((), 0, (1, 2), (1, 2)), ((), 3, (1,), (0, 0, 0, 1)), ((5, 6, 7), 1, (1,), (5, 1, 7)),
                ((5, 6, 7), 2, (1, 2), (5, 6, 1, 2)), ((5, 6, 7), 3, (1,), (5, 6, 7, 1)),
                ((5,), 2, (1, 0), (5, 0, 1, 0)), ((5, 6), 0, (0, 0), (0, 0)), ((5, 6), 256, (), (5, 6)),
                ((), 9, (), ()), ((5,), 0, (), (5,)), ((), 256, (), ()), ((1,) * 256, 0, (2,) * 256, (2,) * 256),
                ((), 255, (9,), (0,) * 255 + (9,)), ((1,) * 256, 256, (), (1,) * 256),
                ((), 0, (65535,) * 256, (65535,) * 256)):
            self.assert_behind(lone(old), ("write", A, at, cells), lone(new))

    def test_cut(self):
        for old, length, new in (
                ((), 0, ()), ((1, 2, 3), 0, ()), ((1, 2, 3), 2, (1, 2)), ((1, 2, 3), 3, (1, 2, 3)),
                ((1, 2, 3), 5, (1, 2, 3, 0, 0)), ((), 256, (0,) * 256), ((7,) * 256, 255, (7,) * 255)):
            self.assert_behind(lone(old), ("cut", A, length), lone(new))

    def test_all_links_tell_the_same_cells(self):
        for deed, cells in ((("write", ("g",), 4, (9,)), (1, 2, 3, 0, 9)), (("cut", ("a", "h"), 1), (1,))):
            tree = behind(TREE, deed)
            self.assertEqual([node_at(tree, path) for path in links_of(TREE, ("f",))], [("file", 0, cells)] * 3)
            self.assertEqual((node_at(tree, AX), node_at(tree, AY)), (("file", 1, ()), ("file", 2, ())))

    def test_link(self):
        one = folder_of(("a", EMPTY), ("b", ("file", 0, (5,))))
        self.assert_behind(one, ("link", B, AX), folder_of(
            ("a", folder_of(("x", ("file", 0, (5,))))), ("b", ("file", 0, (5,)))))
        self.assertEqual(links_of(after(("link", B, AX), ("link", AX, C), tree=one), C), (AX, B, C))

    def test_remove(self):
        self.assert_behind(folder_of(("a", EMPTY), ("b", NO_FILE)), ("remove", A), folder_of(("b", NO_FILE)))
        self.assert_behind(folder_of(("a", EMPTY), ("b", NO_FILE)), ("remove", B), folder_of(("a", EMPTY)))
        tree = after(("remove", ("f",)), ("remove", ("g",)), tree=TREE)
        self.assertEqual(node_at(tree, ("a", "h")), ("file", 0, (1, 2, 3)))
        self.assertEqual(links_of(tree, ("a", "h")), (("a", "h"),))
        self.assertEqual(paths_of(behind(tree, ("remove", ("a", "h")))), (A, AX, AY, B))

    def test_move(self):
        full = folder_of(("x", NO_FILE))
        self.assert_behind(folder_of(("a", full)), ("move", A, B), folder_of(("b", full)))
        two = folder_of(("a", full), ("b", EMPTY))
        self.assert_behind(two, ("move", AX, BX), folder_of(("a", EMPTY), ("b", full)))
        self.assert_behind(two, ("move", A, ("b", "a")), folder_of(("b", folder_of(("a", full)))))
        self.assert_behind(folder_of(("a", folder_of(("b", full)))), ("move", ("a", "b"), B),
                           folder_of(("a", EMPTY), ("b", full)))

    def test_move_onto_a_file(self):
        two = folder_of(("a", ("file", 0, (1,))), ("b", ("file", 1, (2,))))
        self.assert_behind(two, ("move", A, B), folder_of(("b", ("file", 0, (1,)))))
        self.assert_behind(two, ("move", B, A), folder_of(("a", ("file", 0, (2,)))))
        linked = after(("link", B, C), tree=two)
        self.assert_behind(linked, ("move", A, B), folder_of(("b", ("file", 0, (1,))), ("c", ("file", 1, (2,)))))

    def test_move_onto_itself_and_onto_a_link(self):
        for path in (("f",), ("g",), AX):
            self.assert_behind(TREE, ("move", path, path), TREE)
        for path, to in ((("f",), ("g",)), (("g",), ("f",)), (("a", "h"), ("g",)), (("f",), ("a", "h"))):
            tree = behind(TREE, ("move", path, to))
            self.assertEqual(links_of(tree, to), tuple([each for each in links_of(TREE, to) if each != path]))
            self.assertEqual(node_at(tree, to)[::2], ("file", (1, 2, 3)))

    def test_names_near_a_folder_s_own(self):
        tree = folder_of(("a", folder_of(("x", EMPTY))), ("ab", EMPTY))
        self.assert_behind(tree, ("move", A, ("ab", "a")), folder_of(("ab", folder_of(("a", folder_of(("x", EMPTY)))))))
        self.assert_behind(tree, ("move", AX, ("x",)), folder_of(("a", EMPTY), ("ab", EMPTY), ("x", EMPTY)))

    def test_all(self):
        deeds = (("folder", A), ("file", AX), ("write", AX, 1, (7,)), ("link", AX, B), ("move", A, C),
                 ("remove", ("c", "x")))
        self.assert_behind(EMPTY, ("all", deeds), folder_of(("b", ("file", 0, (0, 7))), ("c", EMPTY)))
        for many in range(1, len(deeds) + 1):
            self.assertEqual(behind(EMPTY, ("all", deeds[:many])), after(*deeds[:many]))

    def test_an_all_that_swaps_two_files(self):
        two = folder_of(("a", ("file", 0, (1,))), ("b", ("file", 1, (2,))))
        swap = ("all", (("move", A, C), ("move", B, A), ("move", C, B)))
        self.assert_behind(two, swap, folder_of(("a", ("file", 0, (2,))), ("b", ("file", 1, (1,)))))
        self.assert_behind(behind(two, swap), swap, two)


class RefusedTest(FlashCase):
    def assert_words(self, tree, rows):
        before = repr(tree)
        for deed, word in rows:
            self.assertIs(is_deed(deed), True, deed)
            self.assertEqual(refusal(tree, deed), word, deed)
            if word is None:
                behind(tree, deed)
                continue
            with self.assertRaises(Refused) as caught:
                behind(tree, deed)
            self.assertEqual(vars(caught.exception), {"word": word})
            self.assertEqual(refusal(tree, ("all", (deed,))), word, deed)
            self.assertEqual(refusal(tree, ("all", (("folder", ("new",)), deed, ("remove", ())))), word, deed)
        self.assertEqual(repr(tree), before)

    def test_new_nodes(self):
        for kind in ("folder", "file"):
            self.assert_words(TREE, [
                ((kind, ()), "exists"), ((kind, A), "exists"), ((kind, ("f",)), "exists"), ((kind, AX), "exists"),
                ((kind, ("z", "a")), "missing"), ((kind, ("z", "a", "b")), "missing"),
                ((kind, ("b", "a", "b")), "missing"), ((kind, ("f", "a")), "no folder"),
                ((kind, ("f", "a", "b")), "no folder"), ((kind, ("f", "f")), "no folder"),
                ((kind, ("a", "x", "y")), "no folder"), ((kind, ("a", "x", "y", "z")), "no folder"),
                ((kind, C), None), ((kind, ("b", "f")), None), ((kind, ("a", "a")), None),
                ((kind, ("z",) * 6), "missing")])

    def test_write_and_cut(self):
        paths = (((), "is folder"), (A, "is folder"), (B, "is folder"), (C, "missing"), (("a", "z"), "missing"),
                 (("z", "x"), "missing"), (("f", "f"), "no folder"), (("a", "x", "y", "z"), "no folder"))
        for rest in ((0, ()), (0, (1,)), (1, (1,) * 256), (256, (1,))):
            self.assert_words(TREE, [(("write", path) + rest, word) for path, word in paths])
        for length in (0, 256):
            self.assert_words(TREE, [
                (("cut", (), length), "is folder"), (("cut", A, length), "is folder"),
                (("cut", C, length), "missing"), (("cut", ("z", "x"), length), "missing"),
                (("cut", ("g", "x"), length), "no folder"), (("cut", AX, length), None)])

    def test_too_great(self):
        for at in (0, 1, 2, 100, 254, 255, 256):
            for many in (0, 1, 2, 3, 156, 157, 254, 255, 256):
                word = "too great" if many > 0 and at + many > 256 else None
                self.assert_words(TREE, [(("write", ("f",), at, (1,) * many), word)])

    def test_link(self):
        f = ("f",)
        self.assert_words(TREE, [
            (("link", C, ()), "missing"), (("link", ("f", "a"), ()), "no folder"), (("link", (), ()), "is folder"),
            (("link", A, ("z", "z")), "is folder"), (("link", A, C), "is folder"), (("link", f, ()), "exists"),
            (("link", f, ("z", "a")), "missing"), (("link", f, ("g", "a")), "no folder"),
            (("link", f, ("f", "a")), "no folder"), (("link", f, A), "exists"), (("link", f, f), "exists"),
            (("link", f, ("g",)), "exists"), (("link", f, AX), "exists"), (("link", f, C), None),
            (("link", f, BX), None), (("link", f, ("b", "z", "z")), "missing")])

    def test_remove(self):
        self.assert_words(TREE, [
            (("remove", ()), "root"), (("remove", C), "missing"), (("remove", ("z", "z")), "missing"),
            (("remove", ("f", "a")), "no folder"), (("remove", A), "not empty"), (("remove", B), None),
            (("remove", AX), None)])
        self.assert_words(EMPTY, [(("remove", ()), "root")])

    def test_move(self):
        f = ("f",)
        self.assert_words(TREE, [
            (("move", (), ()), "root"), (("move", (), AX), "root"), (("move", (), ("z", "z")), "root"),
            (("move", C, ()), "missing"), (("move", C, C), "missing"), (("move", ("f", "a"), ()), "no folder"),
            (("move", f, ()), "exists"), (("move", A, ()), "exists"), (("move", A, ("a", "z")), "into itself"),
            (("move", A, AX), "into itself"), (("move", A, ("a", "x", "z")), "into itself"),
            (("move", A, ("a", "z", "z")), "into itself"), (("move", B, ("b", "b")), "into itself"),
            (("move", A, A), "exists"), (("move", B, B), "exists"), (("move", f, ("f", "a")), "no folder"),
            (("move", f, ("f", "a", "b")), "no folder"), (("move", f, ("z", "a")), "missing"),
            (("move", A, ("z", "a")), "missing"), (("move", A, ("f", "a")), "no folder"),
            (("move", f, ("g", "a")), "no folder"), (("move", A, B), "exists"), (("move", B, A), "exists"),
            (("move", A, f), "exists"), (("move", f, A), "exists"), (("move", f, B), "exists"),
            (("move", AX, A), "exists"), (("move", f, f), None), (("move", f, ("g",)), None), (("move", f, AX), None),
            (("move", A, ("b", "a")), None), (("move", B, C), None), (("move", AX, ("x",)), None)])

    def test_too_deep(self):
        """A folder a with the way of four names a/x/y/z, and one b of six names: where they may go."""
        for leaf in ("file", "folder"):
            tree = after(*[("folder", ("a", "x", "y")[:many]) for many in (1, 2, 3)], (leaf, ("a", "x", "y", "z")),
                         *[("folder", B * many) for many in range(1, 7)])
            self.assert_words(tree, [
                (("move", A, B * many + ("n",)), None if many <= 2 else "too deep") for many in range(1, 6)])
            self.assert_words(tree, [
                (("move", AX, B * many + ("n",)), None if many <= 3 else "too deep") for many in range(1, 6)])
            self.assert_words(tree, [
                (("move", ("a", "x", "y", "z"), B * many + ("n",)), None) for many in range(1, 6)])
            self.assert_words(tree, [
                (("move", A, B * 6), "exists"), (("move", A, B * 4 + ("n", "n")), "missing"),
                (("move", A, ("n",)), None), (("move", B, ("a", "n")), "too deep"), (("move", B, ("n",)), None),
                (("move", B * 2, ("a", "n")), None), (("move", B * 2, ("a", "x", "n")), "too deep"),
                (("move", B * 2, ("b", "n")), None)])

    def test_the_longest_way_counts(self):
        """Of the ways within the folder that is moved, whether it is the first one met, the last one or one between."""
        chain = [("folder", B * many) for many in range(1, 6)]
        for name in "xyz":
            inner = [("folder", ("a", each)) for each in "xyz"] + [("file", ("a", name, "p"))]
            tree = after(*chain, ("folder", A), *inner)
            self.assert_words(tree, [
                (("move", A, B * many + ("n",)), None if many <= 3 else "too deep") for many in range(1, 6)])

    def test_all_is_refused_as_the_first_one_that_is(self):
        new, inner = ("file", C), ("remove", ("c", "z"))
        gone = (("remove", ("a", "h")), ("remove", AX), ("remove", AY))
        rows = (
            ((new, new), "exists"), ((("remove", C), new), "missing"), ((new, inner), "no folder"),
            ((("remove", B), ("remove", B), ("remove", ())), "missing"), (gone + (("remove", A),), None),
            (gone[:2] + (("remove", A),), "not empty"), (gone + (("remove", A), ("remove", A)), "missing"),
            ((("move", A, ("b", "a")), ("move", B, C), ("write", ("c", "a", "x"), 0, (1,))), None),
            ((("move", A, C), ("folder", AX)), "missing"), ((("move", A, C), ("folder", A), ("file", AX)), None),
            ((("cut", AX, 200), ("write", AX, 200, (1,) * 57), ("remove", ())), "too great"),
            ((("write", ("f",), 256, (1,)), ("remove", ())), "too great"), ((("remove", ()), new), "root"),
            ((("folder", C), ("move", C, ("c", "c"))), "into itself"), ((("folder", C), ("link", C, B)), "is folder"))
        for deeds, word in rows:
            self.assertEqual(refusal(TREE, ("all", deeds)), word, deeds)
            if word is None:
                self.assertEqual(behind(TREE, ("all", deeds)), after(*deeds, tree=TREE))
            else:
                self.assert_refused(Refused(word), behind, TREE, ("all", deeds))

    def test_an_all_that_is_refused_changes_nothing(self):
        deeds = (("folder", C), ("write", ("f",), 0, (9, 9)), ("remove", ("g",)), ("move", AX, BX), ("remove", C))
        tree = TREE
        for word in (("remove", C), ("folder", B), ("remove", ())):
            with self.assertRaises(Refused):
                behind(tree, ("all", deeds + (word,)))
            self.assertEqual(tree, TREE)
            self.assertEqual(behind(tree, ("all", deeds)), after(*deeds, tree=TREE))


class BesideTheModelTest(unittest.TestCase):
    def assert_alike(self, tree, model, luck):
        self.assertEqual(tree, model.tree())
        self.assertIs(is_tree(tree), True)
        self.assertEqual(paths_of(tree), tuple(sorted(model.at)[1:]))
        for path in [some_path(luck, model) for _ in range(3)]:
            self.assertEqual(links_of(tree, path), model.links(path))
            self.assertEqual(node_at(tree, path) is None, path not in model.at)
            if path in model.at:
                kind = "file" if model.is_file(path) else "folder"
                self.assertEqual(node_at(tree, path)[0], kind)

    def test_rows_of_deeds(self):
        words = {}
        for seed in range(120):
            luck, tree, model = seeded(seed), EMPTY, Model()
            for _ in range(80):
                deed = some_deed(luck, model)
                self.assertIs(is_deed(deed), True, deed)
                word = model.refusal(deed)
                self.assertEqual(refusal(tree, deed), word, (tree, deed))
                words[deed[0], word] = words.get((deed[0], word), 0) + 1
                if word is None:
                    tree, model = behind(tree, deed), model.behind(deed)
                    self.assert_alike(tree, model, luck)
        self.assert_all_words_came_up(words)

    def assert_all_words_came_up(self, words):
        told = {"folder": ("exists",), "file": ("exists",), "write": ("is folder", "too great"), "cut": ("is folder",),
                "link": ("is folder", "exists"), "remove": ("root", "not empty"),
                "move": ("root", "exists", "into itself", "too deep"), "all": ("exists", "is folder")}
        for kind, some in told.items():
            for word in (None, "missing", "no folder") + some:
                self.assertGreater(words.get((kind, word), 0), 0, (kind, word))

    def test_trees_are_equal_exactly_if_paths_cells_and_links_are(self):
        def looks(model):
            files = [path for path in sorted(model.at) if model.is_file(path)]
            cells = [tuple(model.at[path].cells) for path in files]
            return (sorted(model.at), cells, [model.links(path) for path in files])

        luck, found = seeded(77), []
        words = ("folder", "file", "file", "cut", "link", "link", "remove", "move")
        for _ in range(60):
            tree, model = EMPTY, Model()
            for _ in range(7):
                deed = some_deed(luck, model, words)
                if deed[0] == "cut":
                    deed = deed[:2] + (1,)
                if model.refusal(deed) is None:
                    tree, model = behind(tree, deed), model.behind(deed)
            found.append((tree, looks(model)))
        pairs = [(one, two) for one in found for two in found]
        for (tree, look), (other, other_look) in pairs:
            self.assertIs(tree == other, look == other_look)
        self.assertGreater(sum([tree == other for (tree, _), (other, _) in pairs]), 70)

    def test_equal_calls_tell_the_same(self):
        luck, model = seeded(5), Model()
        for _ in range(30):
            deed = some_deed(luck, model)
            tree = model.tree()
            self.assertEqual(refusal(tree, deed), refusal(model.tree(), deed))
            if model.refusal(deed) is None:
                self.assertEqual(behind(tree, deed), behind(model.tree(), deed))
                model = model.behind(deed)


if __name__ == "__main__":
    unittest.main()
