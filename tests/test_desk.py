"""Desks: lines and answers, [F1] to [F3], as flashtrees/desk.py tells it."""

import unittest

from flashtrees.chip import blank_image, is_image
from flashtrees.desk import Desk
from flashtrees.errors import InvalidLine
from flashtrees.examiner import findings
from flashtrees.notes import drop_numbers
from flashtrees.pages import BLANK, WIDTH, word_of
from flashtrees.store import opened_tree
from flashtrees.trees import EMPTY, behind, paths_of, refusal
from tests.images import head, image_of, note
from tests.stories import cut_mask, small_deed
from tests.support import NO_NUMBERS, NO_TUPLES, FlashCase, seeded

NO_LINE, NO_CHIP, OFF, DONE = ("no such line",), ("no chip",), ("power is off",), ("done",)
DEEDS = ("folder /a", "file /a", "write /a 0 1", "cut /a 3", "link /a /b", "remove /a", "move /a /b",
         "all folder /a ; folder /b")
OF_STORE = DEEDS + ("sync", "tree", "read /a", "room")
ASKING = ("tree", "read /", "read /a", "room", "blocks", "findings", "erasures", "", "folder", "chip 5", "what",
          "power x")


def desk_after(*lines):
    desk = Desk()
    for line in lines:
        desk.say(line)
    return desk


def path_word(path):
    return "/" + "/".join(path)


def line_of(deed):
    """The line that asks for a deed."""
    if deed[0] == "all":
        return "all " + " ; ".join([line_of(each) for each in deed[1]])
    if deed[0] == "write":
        return " ".join(["write", path_word(deed[1]), str(deed[2])] + [str(cell) for cell in deed[3]])
    return " ".join([deed[0]] + [path_word(part) if isinstance(part, tuple) else str(part) for part in deed[1:]])


def tree_by_hand(tree):
    """What "tree" answers for a tree."""
    lines = []
    for path in paths_of(tree):
        node = tree
        for name in path:
            node = dict(node[1])[name]
        told = "folder" if node[0] == "folder" else f"file {node[1]} {len(node[2])}"
        lines.append(f"{path_word(path)} {told}")
    return tuple(lines) or ("empty",)


class LineTest(FlashCase):
    def test_what_is_no_text(self):
        desk = desk_after("chip 6 6 1 0", "file /a")
        values = NO_NUMBERS + NO_TUPLES + [1, ("tree",), ["tree"]]
        for value in [value for value in values if not isinstance(value, str)]:
            self.assert_refused(InvalidLine(value), desk.say, value)
            self.assert_refused(InvalidLine(value), desk.say, line=value)
            self.assert_refused(InvalidLine(value), Desk().say, value)
        self.assertEqual(desk.say(line="tree"), ("/a file 0 0",))

    def test_without_a_chip(self):
        desk = Desk()
        for line in OF_STORE + ("power", "power 0", "power x", "blocks", "findings", "erasures", "folder", "tree tree",
                                "read", "sync /", "blocks 1", "all", "all all", "write", "cut /a"):
            self.assertEqual(desk.say(line), NO_CHIP, line)
        for line in ("", " ", "   ", "chip", "chip 6 6 1", "chip 6 6 1 0 0", "chips", "Tree", "TREE", "tree\n",
                     "\ntree", "tree\t",
                     "tr ee", "\n", ";", "/", "0", "what", "fold\u00e9r", "chip 4 6 0 0", "tree;", "no chip"):
            self.assertEqual(desk.say(line), NO_LINE, line)
        self.assertIsNone(desk.image())

    def test_blanks_alone_part_words(self):
        for line in ("chip 6 6 1 0", " chip 6 6 1 0", "chip  6 6   1 0  ", "    chip 6 6 1 0"):
            self.assertEqual(Desk().say(line), ("ready",))
        for line in ("chip\t6 6 1 0", "chip\n6 6 1 0", "chip 6 6 1 0\n", "chip 6 6 1\u00a00", "chip 6 6 1 0 \n",
                     "chip,6,6,1,0"):
            self.assertEqual(Desk().say(line), NO_LINE)

    def test_chips(self):
        for blocks in range(4, 14):
            for pages in (4, 5, 12, 13):
                for spare in range(5):
                    for held in (0, 60, 61):
                        right = 5 <= blocks <= 12 and 5 <= pages <= 12 and spare <= min(3, blocks - 4) and held <= 60
                        desk = Desk()
                        self.assertEqual(desk.say(f"chip {blocks} {pages} {spare} {held}"),
                                         ("ready",) if right else NO_LINE)
                        self.assertEqual(desk.image(), blank_image(blocks, pages) if right else None)
        for word in ("06", "6.0", "+6", "-6", "six", "6_", "\uff16", "\u0666", "\u00b2", "", "/6", "6/", "true"):
            self.assertEqual(Desk().say(f"chip 6 {word} 1 0"), NO_LINE)

    def test_a_chip_begins_again(self):
        desk = desk_after("chip 6 6 1 0", "file /a", "power cut 0", "file /b")
        self.assertEqual(desk.say("erasures"), ("0 1 1",))
        for line in ("chip 6 6 4 0", "chip 13 6 1 0", "chip"):
            self.assertEqual(desk.say(line), NO_LINE)
        self.assertEqual((desk.say("tree"), desk.say("chip 7 5 3 9"), desk.say("tree"), desk.say("erasures"),
                          desk.say("room")),
                         (OFF, ("ready",), ("empty",), ("0 0 0",), ("0 of 6, 0 waiting",)))

    def test_numbers_of_figures(self):
        great = "9" * 180
        desk = desk_after("chip 6 6 1 0", "file /a")
        for word, right in ((great, True), ("1" + great, False), ("0", True), ("00", False), ("01", False),
                            ("", False), ("-1", False),
                            ("1 x", False), ("\u0661", False), ("\uff11", False), ("1e3", False), ("all", True),
                            ("All", False)):
            self.assertEqual(desk.say("power cut " + word), ("opened",) if right else NO_LINE, word)
        for word, right in (("0", True), ("256", True), ("257", False), (great, False), ("00", False), ("1/", False),
                            ("all", False)):
            self.assertEqual(desk_after("chip 6 6 1 0", "file /a").say("cut /a " + word), DONE if right else NO_LINE,
                             word)

    def test_paths(self):
        right = {"/": "refused: exists", "/a": "done", "/a.b-c9": "done", "/a/b": "refused: missing",
                 "/a/b/c/d/e/f": "refused: missing"}
        for word, answer in right.items():
            self.assertEqual(desk_after("chip 6 6 1 0").say("folder " + word), (answer,))
        for word in ("a", "a/b", "//", "/a/", "//a", "/a//b", "/A", "/a_b", "/abcdefghij", "/a/b/c/d/e/f/g", "\\a",
                     "/a\n", "/\u00e9",
                     "/a;", "", "/ a", "()", "root"):
            self.assertEqual(desk_after("chip 6 6 1 0").say("folder " + word), NO_LINE, word)

    def test_other_words_than_told(self):
        desk = desk_after("chip 6 6 1 60", "file /a")
        left = desk.say("room")
        for line in ("folder", "folder /b /c", "file", "write /b", "write /b x", "write /b 0 x", "write /b 0 65536",
                     "write /b 257",
                     "write 0 /b", "write /b 0 1 2 -3", "cut /b", "cut /b 0 0", "link /b", "link /b /c /d", "remove",
                     "remove /b /c",
                     "move /b", "move /b /c /d", "link /b c", "move b /c", "sync 1", "tree /", "read", "read /a /a",
                     "read a", "room 1",
                     "blocks 0", "findings /", "erasures 1", "power x", "power cut", "power cut x", "power fails",
                     "power cut cut",
                     "power done", "power 1 cut", "power 1001", "power 500 501", "power 999 cut 0 cut 0", "power -1",
                     "power 1 x",
                     "write /b 0 " + " ".join(["1"] * 257), "power " + "9" * 180, "power " + "9" * 181):
            self.assertEqual(desk.say(line), NO_LINE, line)
        self.assertEqual(desk.say("room"), left)
        self.assertEqual(desk.say("write /a 0 " + " ".join(["1"] * 256)), ("no room",))

    def test_all(self):
        desk = desk_after("chip 6 6 1 60")
        for line in ("all", "all ;", "all folder /a ;", "all ; folder /a", "all folder /a ; ; folder /b",
                     "all folder /a;folder /b",
                     "all folder /a; folder /b", "all folder /a ;folder /b", "all folder /a folder /b",
                     "all all folder /a", "all sync",
                     "all tree", "all folder /a ; sync", "all folder a", "all write /a 0 65536", "all power",
                     "all folder /a ; what",
                     "all " + " ; ".join(["remove /a"] * 9)):
            self.assertEqual(desk.say(line), NO_LINE, line)
        self.assertEqual(desk.say("all folder /a"), DONE)
        self.assertEqual(desk.say("all   file /a/x  ;  write /a/x 0 7 ; link /a/x /b"), DONE)
        self.assertEqual(desk.say("tree"), ("/a folder", "/a/x file 0 1", "/b file 0 1"))
        self.assertEqual(desk.say("all remove /b ; remove /b"), ("refused: missing",))
        self.assertEqual(desk.say("all " + " ; ".join(["remove /b"] + ["link /a/x /b ; remove /b"] * 3 + ["file /c"])),
                         DONE)
        self.assertEqual(desk.say("tree"), ("/a folder", "/a/x file 0 1", "/c file 1 0"))

    def test_what_is_answered_first(self):
        desk = desk_after("chip 6 6 1 0", "power cut 0", "folder /a")
        for line in OF_STORE:
            self.assertEqual(desk.say(line), OFF)
        for line in ("folder", "write /a", "tree 1", "read", "read x", "sync now", "room /", "all", "all tree", "",
                     "what"):
            self.assertEqual(desk.say(line), NO_LINE)
        for line in ("blocks", "findings", "erasures"):
            self.assertNotIn(desk.say(line), (NO_LINE, OFF, NO_CHIP))
        self.assertEqual(desk.say("power"), ("opened",))


class OrderTest(FlashCase):
    def test_each_deed(self):
        desk = desk_after("chip 8 8 1 0")
        for line, answer in (
                ("folder /a", "done"), ("folder /a", "refused: exists"), ("file /a/x", "done"),
                ("write /a/x 2 7 8", "done"),
                ("write /a/x 250 1 1 1 1 1 1 1", "refused: too great"), ("write /a/x 0", "done"),
                ("cut /a/x 3", "done"),
                ("link /a/x /b", "done"), ("link /a /c", "refused: is folder"), ("move /b /a/y", "done"),
                ("remove /a", "refused: not empty"),
                ("remove /", "refused: root"), ("move /a /a/z", "refused: into itself"), ("read /a/x", "0 0 7"),
                ("read /a/y", "0 0 7"),
                ("read /a", "no file"), ("read /", "no file"), ("read /q", "no file"), ("read /a/x/y", "no file"),
                ("cut /a/x 0", "done"),
                ("read /a/y", ""), ("folder /a/x/y", "refused: no folder"), ("remove /q", "refused: missing")):
            self.assertEqual(desk.say(line), (answer,), line)
        self.assertEqual(desk.say("tree"), ("/a folder", "/a/x file 0 0", "/a/y file 0 0"))

    def test_trees(self):
        desk = desk_after("chip 12 12 0 0", "file /b", "folder /a", "file /a/z", "file /a/b", "link /b /a/c",
                          "folder /a-", "cut /b 256")
        self.assertEqual(desk.say("tree"), ("/a folder", "/a/b file 0 0", "/a/c file 1 256", "/a/z file 2 0",
                                            "/a- folder", "/b file 1 256"))
        self.assertEqual(desk.say("read /a/c"), (" ".join(["0"] * 256),))

    def test_what_waits(self):
        desk = desk_after("chip 5 5 0 9", "file /a", "write /a 0 7 8")
        self.assertEqual((desk.say("room"), desk.say("sync"), desk.say("room")),
                         (("3 of 9, 4 waiting",), ("synced",), ("3 of 9, 0 waiting",)))
        desk.say("link /a /b")
        self.assertEqual((desk.say("power"), desk.say("tree")), (("opened",), ("/a file 0 2",)))
        self.assertEqual((desk.say("folder /c"), desk.say("file /d")), (DONE, DONE[:0] + ("no room",)))

    def test_lucks(self):
        desk = desk_after("chip 6 6 1 60")
        for line in ("power", "power 0", "power 1000", "power 0 0 0", "power 500 500", "power 999 cut 0",
                     "power 998 fails all cut all 0",
                     "power cut 7 fails 8 3 cut all", "power 1000 0"):
            self.assertEqual(desk.say(line), ("opened",), line)
        desk = desk_after("chip 6 6 1 0", "power 2 cut 0", "file /a")
        self.assertEqual((desk.say("power"), desk.say("tree"), desk.say("blocks")[0]),
                         (("opened",), ("empty",), "0 1 1: head note blank blank blank blank"))
        # An erase that leaves all bits of a block's pages leaves them 1.
        desk = desk_after("chip 6 6 1 0", "power 1 cut 0", "file /a", "power cut all", "file /a")
        self.assertEqual(desk.image()[0], (False, 2, (BLANK,) * 6))
        desk = desk_after("chip 6 6 1 0", "power 2 cut all", "file /a")
        self.assertEqual(desk.image()[0][2][1:], (BLANK,) * 5)
        desk = desk_after("chip 6 6 1 0", f"power 1 cut {BLANK - 1}", "file /a")
        self.assertEqual(desk.image()[0][2], (BLANK - 1 | head(6, 1, 1, (), (1, 0, 0, 0, 0, 0)),) + (BLANK,) * 5)

    def test_power_cut(self):
        desk = desk_after("chip 6 6 1 60", "file /a", "power 3 cut 0", "file /b", "file /c")
        self.assertEqual((desk.say("sync"), desk.say("sync"), desk.say("tree"), desk.say("erasures")),
                         (("power cut",), OFF, OFF, ("0 1 1",)))
        self.assertEqual((desk.say("power"), desk.say("tree")), (("opened",), ("/b file 0 0",)))
        self.assertEqual(desk.say("erasures"), ("0 1 1",))
        desk = desk_after("chip 6 6 1 0", "power cut 0")
        self.assertEqual([desk.say("file /a"), desk.say("power cut 0"), desk.say("file /a"), desk.say("erasures")],
                         [("power cut",), ("opened",), ("power cut",), ("0 2 2",)])

    def test_worn_out(self):
        desk = desk_after("chip 6 6 0 0", "power 3 fails 0")
        self.assertEqual((desk.say("file /a"), desk.say("tree"), desk.say("file /b"), desk.say("sync")),
                         (("worn out",), ("/a file 0 0",), ("worn out",), ("worn out",)))
        self.assertEqual((desk.say("file /a"), desk.say("room"), desk.say("blocks")[0], desk.say("erasures")),
                         (("refused: exists",), ("2 of 16, 2 waiting",), "0 1 1: head note note blank blank blank bad",
                          ("0 0 0",)))
        # The next store does not know yet that the block is bad.
        self.assertEqual((desk.say("power"), desk.say("tree"), desk.say("file /b")),
                         (("opened",), ("/a file 0 0",), ("worn out",)))
        desk = desk_after("chip 6 6 1 0", "power 3 fails 0", "file /a")
        self.assertEqual((desk.say("file /b"), desk.say("tree"), desk.say("erasures")),
                         (DONE, ("/a file 0 0", "/b file 1 0"), ("0 1 0",)))

    def test_blocks(self):
        desk = desk_after("chip 5 5 1 0", "file /a", "cut /a 1", "cut /a 2")
        self.assertEqual(desk.say("blocks"), ("0 1 1: head note note note blank", "1 1 2: head note blank blank blank",
                                              "2 0 -: blank blank blank blank blank",
                                              "3 0 -: blank blank blank blank blank",
                                              "4 0 -: blank blank blank blank blank"))
        desk = desk_after("chip 5 5 1 0", "power 1 fails all", "file /a", "cut /a 1")
        self.assertEqual(desk.say("blocks")[:2], ("0 1 -: blank blank blank blank blank bad",
                                                  "1 1 1: head note note note blank"))

    def test_findings(self):
        """No line leads to an image that is not orderly, so one is laid on the desk."""
        desk = desk_after("chip 5 5 0 0")
        self.assertEqual(desk.say("findings"), ("orderly",))
        image = image_of(5, 5, (head(5, 1), note(1, 1, ("name", 0, "b"), None), note(1, 1, ("name", 0, "b"), 4)),
                         (head(5, 1),))
        desk._chip._blocks = list(image)
        self.assertEqual(desk.say("findings"), ("ended 0 2", "unlike 0 2", "same order 1 0"))
        self.assertEqual(len(findings(image)), 3)
        self.assertEqual((desk.say("power"), desk.say("tree"), desk.image()), (("does not open",), OFF, image))
        self.assertEqual((desk.say("power"), desk.say("chip 5 5 0 0"), desk.say("tree")),
                         (("does not open",), ("ready",), ("empty",)))

    def test_erasures(self):
        desk = desk_after("chip 5 5 1 0")
        desk._chip._blocks = [(True, 1, (BLANK,) * 5), (False, 7, (BLANK,) * 5),
                              (False, 5, (word_of(drop_numbers(1)),) * 5)] + [
            (False, 6, (BLANK,) * 5)] * 2
        self.assertEqual(desk.say("erasures"), ("5 7 0",))
        desk._chip._blocks = [(True, 9, (BLANK,) * 5)] * 5
        self.assertEqual(desk.say("erasures"), ("0 0 0",))


class StoryTest(unittest.TestCase):
    """[F3]: rows of lines against a plain model of trees."""

    def luck_words(self, luck, many, fails):
        words = [str(luck.randrange(many))]
        for _ in range(fails):
            words += ["fails", self.mask_word(luck), str(luck.randrange(many))]
        if luck.random() < 0.8:
            words += ["cut", self.mask_word(luck)]
        return " ".join(words)

    def mask_word(self, luck):
        return luck.choice(("all", "0", str(luck.getrandbits(WIDTH)), str(cut_mask(luck, WIDTH))))

    def assert_asking_changes_nothing(self, desk, luck):
        image = desk.image()
        for line in luck.sample(ASKING, 4):
            desk.say(line)
        self.assertEqual(desk.image(), image)

    def assert_worn_alike(self, desk, spare):
        least, greatest, cuts = [int(word) for word in desk.say("erasures")[0].split(" ")]
        if sum([is_bad for is_bad, _, _ in desk.image()]) <= spare:
            self.assertLessEqual(greatest, least + 1 + cuts)

    def opened(self, desk, trees, synced):
        """The tree behind a line that opens, one behind a beginning of the lines done."""
        told = desk.say("tree")
        self.assertIn(told, [tree_by_hand(tree) for tree in trees[synced:]])
        self.assertEqual(told, tree_by_hand(opened_tree(desk.image())))
        return opened_tree(desk.image())

    def say_deed(self, desk, luck, trees):
        """Say a line of a deed; the trees that may be opened then, if it was done, or may have been."""
        deed = small_deed(luck, trees[-1])
        answer = desk.say(line_of(deed))[0]
        word = refusal(trees[-1], deed)
        self.assertIn(answer, (f"refused: {word}",) if word else ("done", "no room", "power cut", "worn out"))
        if answer in ("done", "power cut", "worn out"):
            trees.append(behind(trees[-1], deed))
        if answer != "power cut":
            self.assertEqual(desk.say("tree"), tree_by_hand(trees[-1]))
        return answer

    def test_rows_of_lines(self):
        met = {}
        for seed in range(40):
            luck = seeded(seed)
            blocks, pages = luck.choice((5, 6, 8)), luck.choice((5, 6, 9))
            spare = luck.randint(0, min(2, blocks - 4))
            desk = desk_after(f"chip {blocks} {pages} {spare} {luck.choice((0, 0, 4, 60))}")
            tree = EMPTY
            for _ in range(8):
                self.assertEqual(desk.say("power " + self.luck_words(luck, luck.choice((5, 60)),
                                                                     luck.choice((0, 0, 1)))), ("opened",))
                trees, synced, answer = [tree], 0, "done"
                for _ in range(40):
                    answer = self.say_deed(desk, luck, trees) if luck.random() < 0.9 else desk.say("sync")[0]
                    met[answer.split(":")[0]] = met.get(answer.split(":")[0], 0) + 1
                    if answer == "synced":
                        synced = len(trees) - 1
                    self.assert_worn_alike(desk, spare)
                    self.assert_asking_changes_nothing(desk, luck)
                    if answer in ("power cut", "worn out"):
                        break
                desk.say("power")
                tree = self.opened(desk, trees, synced)
                self.assertIs(is_image(desk.image()), True)
        for answer, many in (("done", 2000), ("refused", 100), ("no room", 200), ("synced", 200), ("power cut", 60),
                             ("worn out", 10)):
            self.assertGreater(met[answer], many, answer)


if __name__ == "__main__":
    unittest.main()
