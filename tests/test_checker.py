"""Claims and papers, and the certificates: [E10], as flashtrees/checker.py and flashtrees/certificates.py tell it."""

import unittest

from flashtrees.certificates import certify_erase, certify_image, certify_opens, certify_played, certify_program
from flashtrees.checker import accepts
from flashtrees.chip import Chip, blank_image
from flashtrees.errors import InvalidDeed, InvalidLuck, NotOrderly, PowerCut
from flashtrees.examiner import findings, may_erase
from flashtrees.pages import BLANK, WIDTH, state_of
from flashtrees.reading import is_orderly
from flashtrees.store import opened_tree, played
from flashtrees.trees import EMPTY, behind, refusal
from tests.images import (A, B, ONE, ByHand, drop, head, image_of, note, orderly_image, some_note_page, some_page_of,
                          some_words, wild_image, with_page)
from tests.stories import cut_mask, small_deed
from tests.support import GREAT, NO_NUMBERS, NO_TUPLES, Alike, FlashCase, nested, seeded, some_mask
from tests.test_shelf_model import rough_image
from tests.values import BAD_TREES
from tests.wrongs import WRONG

BLOCKS = blank_image(5, 5)
FILE = behind(EMPTY, ("file", ("a",)))
DONE = ("done",)
DEEDS = (("file", ("a",)), ("file", ("a",)), ("write", ("a",), 0, (1, 2)), ("link", ("a",), ("b",)))
LEFT = played(BLOCKS, (), 1, 2, DEEDS)[0]
UNSOUND = image_of(5, 5, (head(5, 1), note(1, 1, A, 1)))
WRONG_ORDER = image_of(5, 5, (head(5, 1), note(1, 1, B, None), note(1, 1, B, 4)))
END = note(9, 1, B, 1)
MASKS = [0] + [(1 << (1 << k)) - 1 for k in range(10)] + [BLANK]

# Of each kind a claim that is so, with its paper.
SO = (
    (("opens to", BLOCKS, EMPTY), ()),
    (("opens not to", BLOCKS, FILE), ()),
    (("opens not to", UNSOUND, EMPTY), ()),
    (("orderly", LEFT), ()),
    (("orderly", UNSOUND), ()),
    (("not orderly", WRONG_ORDER), ("unlike", 0, 2)),
    (("not orderly", WRONG_ORDER), ("ended", 0, 2)),
    (("program keeps", LEFT, 4, 0, note(1, 1, B, 1), EMPTY), ()),
    (("program breaks", LEFT, 0, 0, 512, FILE), 0),
    (("erase keeps", LEFT, 3), ()),
    (("erase breaks", LEFT, 0), BLANK),
    (("leads to", BLOCKS, 1, 2, DEEDS, LEFT), ()),
)


class AcceptsTest(FlashCase):
    def test_each_kind(self):
        for claim, paper in SO:
            self.assertIs(accepts(claim, paper), True, claim[0])
            self.assertIs(accepts(claim=claim, paper=paper), True, claim[0])

    def test_papers_of_other_kinds(self):
        papers = NO_NUMBERS + [0, 1, -1, GREAT, (0,), ((),), (("done",),), ("unlike", 0, 2), [("unlike", 0, 2)],
                               ["done"],
                               ("unlike", 0, 3), ("unlike", 0), ("unlike", 0, 2, 0), ("unlike", False, 2),
                               (Alike(), 0, 2),
                               ("unlike", Alike(), 2), (b"unlike", 0, 2), ("ended", 0, 1), nested(40), BLANK, BLANK + 1]
        right = {"not orderly": [("unlike", 0, 2)], "program breaks": [0], "erase breaks": [BLANK],
                 "leads to": [(), (("done",),)]}
        for claim, _ in SO:
            for paper in papers:
                wanted = right.get(claim[0], [()])
                is_right = repr(paper) in [repr(each) for each in wanted]
                if claim[0] not in ("program breaks", "erase breaks") or paper.__class__ is not int:
                    self.assertIs(accepts(claim, paper), is_right, (claim[0], paper))

    def test_whatever_claims(self):
        words = [claim[0] for claim, _ in SO]
        values = NO_NUMBERS + NO_TUPLES + [(word,) for word in words] + words + [
            ("opens", BLOCKS, EMPTY), ("", BLOCKS), (None, BLOCKS), (Alike(), BLOCKS), (Alike(),), (b"orderly", LEFT),
            (("orderly",), LEFT), (["orderly"], LEFT), ({}, LEFT), nested(40), ("Orderly", LEFT)]
        for value in values:
            for paper in ((), 0, BLANK, ("unlike", 0, 2)):
                self.assertIs(accepts(value, paper), False, value)

    def test_claims_of_another_form(self):
        for claim, paper in SO:
            for wrong in (claim[:-1], claim + ((),), claim + (0,), list(claim), claim[:1], (claim,), claim[1:],
                          ("orderly" if claim[0] != "orderly" else "opens to",) + claim[1:] + (0,)):
                self.assertIs(accepts(wrong, paper), False, wrong[0])

    def test_wrong_elements_at_each_place(self):
        kinds = {
            "image": [value for value, _ in WRONG["image"]], "tree": BAD_TREES,
            "block": [value for value, _ in WRONG["block"]], "page": [value for value, _ in WRONG["block"]],
            "word": [value for value, _ in WRONG["page"]], "spare": [value for value, _ in WRONG["spare"]],
            "held": [value for value, _ in WRONG["held"]], "deeds": [value for value, _ in WRONG["deeds"]]}
        forms = {
            "opens to": ("image", "tree"), "opens not to": ("image", "tree"), "orderly": ("image",),
            "not orderly": ("image",),
            "program keeps": ("image", "block", "page", "word", "tree"), "erase keeps": ("image", "block"),
            "program breaks": ("image", "block", "page", "word", "tree"), "erase breaks": ("image", "block"),
            "leads to": ("image", "spare", "held", "deeds", "image")}
        luck = seeded(61)
        for claim, paper in SO:
            for place, kind in enumerate(forms[claim[0]]):
                values = kinds[kind] if len(kinds[kind]) < 400 else luck.sample(kinds[kind], 400)
                for value in values:
                    wrong = claim[:place + 1] + (value,) + claim[place + 2:]
                    self.assertIs(accepts(wrong, paper), False, (claim[0], kind, value))


class JudgeTest(unittest.TestCase):
    def assert_exclusive(self, one, two):
        self.assertFalse(accepts(*one) and accepts(*two))

    def test_opens(self):
        luck = seeded(62)
        for _ in range(200):
            image = luck.choice((wild_image, orderly_image, rough_image))(luck)
            tree = opened_tree(image)
            for other in (EMPTY, FILE, behind(EMPTY, ("folder", ("b",))), EMPTY if tree is None else tree):
                self.assertIs(accepts(("opens to", image, other), ()), tree == other)
                self.assertIs(accepts(("opens not to", image, other), ()), tree != other)

    def test_orderly(self):
        luck = seeded(63)
        for _ in range(200):
            image = luck.choice((wild_image, orderly_image))(luck)
            found = findings(image)
            self.assertIs(accepts(("orderly", image), ()), found == ())
            self.assertIs(accepts(("not orderly", image), ()), False)
            for word in ("same order", "ended", "turned back", "elder behind", "unlike"):
                for block in range(len(image)):
                    for page in range(len(image[0][2])):
                        paper = (word, block, page)
                        self.assertIs(accepts(("not orderly", image), paper), paper in found)

    def left(self, image, operation, mask):
        chip = Chip(image, (("cut", mask),))
        try:
            operation(chip)
        except PowerCut:
            pass
        return opened_tree(chip.image())

    def some_word(self, luck, image):
        kind = luck.random()
        if kind < 0.4:
            return luck.choice(some_words(luck, image))
        return luck.choice((some_note_page(luck), some_page_of(luck, len(image)), head(len(image), 9), drop(2),
                            luck.getrandbits(WIDTH)))

    def test_programs(self):
        luck, met = seeded(64), {}
        while sum(met.values()) < 1500:
            image = luck.choice((orderly_image, rough_image))(luck)
            tree = opened_tree(image)
            block, page = luck.randrange(len(image)), luck.randrange(len(image[0][2]))
            word = self.some_word(luck, image)
            end = ByHand(image).next_page(block)
            if end is not None and luck.random() < 0.7:
                page = end
            old = image[block][2][page]
            whole = self.left(image, lambda chip: chip.program(block, page, word), 0)
            other = whole if whole is not None and luck.random() < 0.7 else EMPTY
            claim = ("program keeps", image, block, page, word, other)
            is_kept = (tree is not None and old == BLANK and state_of(word) == "whole" and whole in (tree, other)
                       and not image[block][0])
            self.assertIs(accepts(claim, ()), is_kept)
            for mask in (0, BLANK, some_mask(luck), luck.getrandbits(WIDTH)):
                left = self.left(image, lambda chip: chip.program(block, page, word), mask)
                is_broken = tree is not None and left not in (tree, other) and mask <= BLANK and not image[block][0]
                self.assertIs(accepts(("program breaks",) + claim[1:], mask), is_broken)
                self.assertFalse(is_kept and is_broken)
                met[is_kept, is_broken] = met.get((is_kept, is_broken), 0) + 1
        self.assertGreater(met[True, False], 50)
        self.assertGreater(met[False, True], 15)

    def test_erases(self):
        luck, met = seeded(65), {}
        while sum(met.values()) < 2500:
            image = luck.choice((orderly_image, rough_image))(luck)
            tree, bits = opened_tree(image), WIDTH * len(image[0][2])
            for block in range(len(image)):
                is_kept = tree is not None and may_erase(image, block) and not image[block][0]
                self.assertIs(accepts(("erase keeps", image, block), ()), is_kept)
                for mask in (0, (1 << bits) - 1, cut_mask(luck, bits),
                             BLANK << (WIDTH * luck.randrange(bits // WIDTH)), 1 << bits):
                    left = self.left(image, lambda chip: chip.erase(block), mask)
                    is_broken = tree is not None and left != tree and mask < 1 << bits and not image[block][0]
                    self.assertIs(accepts(("erase breaks", image, block), mask), is_broken)
                    self.assertFalse(is_kept and is_broken)
                    met[is_kept, is_broken] = met.get((is_kept, is_broken), 0) + 1
        self.assertGreater(met[True, False], 100)
        self.assertGreater(met[False, True], 15)

    def test_masks_that_are_too_wide(self):
        claim = ("program breaks", LEFT, 0, 0, 512, FILE)
        for paper, right in ((0, True), (BLANK, False), (BLANK + 1, False), (BLANK * 2 + 2, False), (-1, False)):
            self.assertIs(accepts(claim, paper), right)
        claim = ("erase breaks", LEFT, 0)
        for paper, right in ((BLANK, True), ((1 << 5 * WIDTH) - 1, True), ((1 << 5 * WIDTH) + BLANK, False),
                             (0, False)):
            self.assertIs(accepts(claim, paper), right)

    def test_bad_blocks_and_images_that_do_not_open(self):
        for image in (tuple([(True,) + block[1:] for block in LEFT]), WRONG_ORDER, UNSOUND):
            for claim, paper in SO:
                if claim[0] in ("program keeps", "program breaks", "erase keeps", "erase breaks"):
                    self.assertIs(accepts((claim[0], image) + claim[2:], paper), False)
        for image in (WRONG_ORDER, UNSOUND):
            self.assertIs(accepts(("leads to", image, 0, 0, (), image), ()), False)
        bad = tuple([(True,) + block[1:] for block in LEFT])
        self.assertIs(accepts(("leads to", bad, 0, 0, (), bad), ()), True)

    def test_leads_to(self):
        fails = (DONE, ("fails", BLANK))
        other = played(BLOCKS, fails, 1, 2, DEEDS)[0]
        claim = ("leads to", BLOCKS, 1, 2, DEEDS, LEFT)
        for paper, right in (((), True), ((DONE,) * 400, True), ((DONE,) * 401, False), (fails, False),
                             ((("cut", 0),), False),
                             ((DONE,) * 50 + (("cut", BLANK),), True), ((DONE,) * 50 + (("cut", BLANK + 1),), False),
                             ((DONE,) * 50 + (("fails", GREAT),), False), ([DONE], False), (("done",), False)):
            self.assertIs(accepts(claim, paper), right)
            self.assertIs(accepts(claim[:5] + (other,), paper), paper is fails)
        # One block less may be bad: the store is worn out.
        self.assertIs(accepts(("leads to", BLOCKS, 0, 2, DEEDS, other), fails), False)
        self.assertIs(accepts(claim[:3] + (300,) + claim[4:], ()), True)
        self.assertIs(accepts(claim[:4] + (DEEDS[:1],) + claim[5:], ()), False)
        # Thirty deeds that change nothing more, and one too many.
        self.assertIs(accepts(claim[:4] + (DEEDS * 7 + DEEDS[:2],) + (LEFT,), ()), True)
        self.assertIs(accepts(claim[:4] + (DEEDS * 7 + DEEDS[:3],) + (LEFT,), ()), False)
        self.assertIs(accepts(("leads to", BLOCKS, 1, 0, (), BLOCKS), ()), True)


class CertifyTest(FlashCase):
    def assert_accepted(self, told):
        self.assertIs(told.__class__, tuple)
        self.assertEqual(len(told), 2)
        self.assertIs(accepts(*told), True, told[0][0])

    def test_images(self):
        luck = seeded(66)
        for _ in range(150):
            image = luck.choice((wild_image, orderly_image, rough_image))(luck)
            told = certify_image(image)
            self.assert_accepted(told)
            wanted = (("orderly", image), ()) if is_orderly(image) else (("not orderly", image), findings(image)[0])
            self.assertEqual(told, wanted)
            for tree in (EMPTY, FILE, opened_tree(image) or EMPTY):
                told = certify_opens(image, tree)
                self.assert_accepted(told)
                self.assertEqual(told[0][0], "opens to" if opened_tree(image) == tree else "opens not to")

    def test_programs(self):
        luck, met = seeded(67), {}
        while sum(met.values()) < 250:
            image = luck.choice((orderly_image, rough_image))(luck)
            block, page = luck.randrange(len(image)), luck.randrange(len(image[0][2]))
            word, tree = JudgeTest.some_word(None, luck, image), luck.choice((EMPTY, opened_tree(image) or FILE))
            passed = (image, block, page, word, tree)
            if opened_tree(image) is None:
                self.assert_refused(NotOrderly(), certify_program, *passed)
                continue
            told = certify_program(*passed)
            if accepts(("program keeps",) + passed, ()):
                self.assertEqual(told, (("program keeps",) + passed, ()))
            else:
                masks = [mask for mask in MASKS if accepts(("program breaks",) + passed, mask)]
                self.assertEqual(told, (("program breaks",) + passed, masks[0]) if masks else None)
            met[told and told[0][0]] = met.get(told and told[0][0], 0) + 1
        self.assertEqual(len(met), 3)
        self.assertGreater(min(met.values()), 10)

    def test_masks_of_programs(self):
        """The least mask that leaves a word of notes: that of which the bits ahead of it alone leave too few."""
        image = image_of(5, 5, (head(5, 1), note(1, 0, A, 1), note(1, 1, ONE, ("file", 256))))
        luck, widths = seeded(70), (0, 1, 2, 4, 8, 16, 128, 256, 512)
        for before, width in zip((0,) + widths, widths):
            between = ((1 << width) - 1) & ~((1 << before) - 1)
            new = 0
            while width > 0 and new & between == 0:
                new = note(2, 1, ("piece", 1, 0), tuple([luck.randrange(1, 65536) for _ in range(16)]))
            new = new or note(2, 1, B, 1)
            # What stands on the page has the new word within it, and is half.
            half = with_page(image, 0, 3, new | 1 << (WIDTH - 1))
            word = new & ~((1 << width) - 1)
            told = certify_program(half, 0, 3, word, EMPTY)
            self.assertEqual(told, (("program breaks", half, 0, 3, word, EMPTY), (1 << width) - 1))
            self.assert_accepted(told)
        self.assertIsNone(certify_program(image, 0, 3, BLANK, EMPTY))

    def test_erases(self):
        luck, met = seeded(68), {}
        giver = image_of(5, 5, (head(5, 1), note(1, 0, A, 1), note(1, 1, ONE, ("file", 3))))
        paged = image_of(5, 5, (head(5, 1), note(1, 0, A, 1), note(1, 1, ONE, ("file", 3))),
                         (head(5, 2), note(1, 2, A, 1)),
                         (head(5, 3), note(2, 1, A, None)))
        for image in (giver, paged):
            for block in range(5):
                self.assertEqual(certify_erase(image, block), self.erase_by_hand(image, block))
        # With all of its pages blank the eldest block would be missed; no name, and nothing is told either way.
        self.assertEqual(certify_erase(giver, 0)[1], (1 << 5 * WIDTH) - 1)
        self.assertEqual(certify_erase(paged, 2)[0][0], "erase breaks")
        while sum(met.values()) < 300:
            image = luck.choice((orderly_image, rough_image))(luck)
            block = luck.randrange(len(image))
            if opened_tree(image) is None:
                self.assert_refused(NotOrderly(), certify_erase, image, block)
                continue
            told = certify_erase(image, block)
            self.assertEqual(told, self.erase_by_hand(image, block))
            met[told and told[0][0]] = met.get(told and told[0][0], 0) + 1
        self.assertEqual(len(met), 3)

    def erase_by_hand(self, image, block):
        size = len(image[0][2])
        if may_erase(image, block):
            return ("erase keeps", image, block), ()
        masks = [(1 << (WIDTH * size)) - 1] + [BLANK << (WIDTH * page) for page in range(size)]
        masks = [mask for mask in masks if accepts(("erase breaks", image, block), mask)]
        return (("erase breaks", image, block), masks[0]) if masks else None

    def test_one_page_alone(self):
        """Only a single page that is gone shows it: the head of a block with a second head, a higher START."""
        image = image_of(5, 5, (head(5, 1), note(1, 0, A, 1), note(1, 1, ONE, ("file", 3))), (512, head(5, 7, 7), 512))
        told = certify_erase(image, 1)
        self.assertEqual((told[0][0], told[1]), ("erase breaks", BLANK))
        image = image_of(5, 6, (head(5, 1), note(1, 0, A, 1), note(1, 1, ONE, ("file", 3))),
                         (note(7, 1, A, None), 512, head(5, 7, 7)))
        self.assertIsNone(certify_erase(image, 1))

    def test_bad_blocks(self):
        bad = tuple([(True,) + block[1:] for block in LEFT])
        self.assertIsNone(certify_erase(bad, 0))
        self.assertIsNone(certify_erase(bad, 4))
        self.assertIsNone(certify_program(bad, 4, 0, END, EMPTY))
        broken = tuple([(True,) + block[1:] for block in WRONG_ORDER])
        self.assert_refused(NotOrderly(), certify_erase, broken, 0)
        self.assert_refused(NotOrderly(), certify_program, broken, 4, 0, END, EMPTY)

    def test_played(self):
        luck, met = seeded(69), {}
        for _ in range(150):
            image = luck.choice((orderly_image, rough_image, lambda _: BLOCKS))(luck)
            if opened_tree(image) is None:
                self.assert_refused(NotOrderly(), certify_played, image, (), 0, 0, ())
                continue
            tree, deeds = opened_tree(image), []
            for _ in range(luck.randrange(9)):
                deeds.append(small_deed(luck, tree))
                if refusal(tree, deeds[-1]) is None:
                    tree = behind(tree, deeds[-1])
            told = [DONE] * luck.randrange(30)
            if told and luck.random() < 0.5:
                told[luck.randrange(len(told))] = (luck.choice(("fails", "cut")), cut_mask(luck, WIDTH) & BLANK)
            passed = (image, tuple(told), 1, luck.choice((0, 5)), tuple(deeds))
            left, _, ended = played(*passed)
            certificate = certify_played(*passed)
            met[ended] = met.get(ended, 0) + 1
            if ended == "synced":
                self.assertEqual(certificate, (("leads to", image, 1, passed[3], passed[4], left), passed[1]))
                self.assert_accepted(certificate)
            else:
                self.assertIsNone(certificate)
        self.assertGreater(met["cut"], 5)
        self.assertGreater(met["synced"], 30)

    def test_played_with_long_lucks_and_wide_masks(self):
        self.assert_accepted(certify_played(BLOCKS, (DONE,) * 400, 1, 2, DEEDS))
        self.assertIsNone(certify_played(BLOCKS, (DONE,) * 401, 1, 2, DEEDS))
        self.assert_accepted(certify_played(BLOCKS, (DONE,) * 30 + (("cut", BLANK),), 1, 2, DEEDS))
        for told, index in (((("cut", BLANK + 1),), 0), ((DONE, ("cut", BLANK), ("fails", GREAT), ("cut", GREAT)), 2),
                            ((DONE,) * 500 + (("fails", BLANK + 1),), 500)):
            self.assert_refused(InvalidLuck(index), certify_played, BLOCKS, told, 1, 2, DEEDS)
            self.assert_refused(InvalidLuck(index), certify_played, UNSOUND, told, None, None, None)
        self.assert_refused(InvalidDeed(None), certify_played, UNSOUND, (), 1, 2, (DEEDS[0], None))
        self.assert_refused(InvalidLuck(1), certify_played, BLOCKS, (("cut", GREAT), ("cut",)), 1, 2, DEEDS)
        self.assert_refused(NotOrderly(), certify_played, UNSOUND, (DONE,) * 401, 1, 2, DEEDS)
        self.assertIsNone(certify_played(BLOCKS, (DONE, ("fails", 0)), 0, 2, DEEDS))


if __name__ == "__main__":
    unittest.main()
