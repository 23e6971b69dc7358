"""The checker: claims about images, each with a paper that shows that it is so."""

from flashtrees.arguments import is_between, is_whole
from flashtrees.chip import Chip, is_image, is_luck
from flashtrees.errors import PowerCut
from flashtrees.examiner import findings, may_erase
from flashtrees.pages import WIDTH, is_blank, is_page, state_of
from flashtrees.shelf import is_spare
from flashtrees.store import are_played, is_held, opened_tree, played
from flashtrees.trees import is_tree

MOST_OUTCOMES = 400


def is_none(paper):
    """Whether a paper is that of claims that show themselves."""
    return isinstance(paper, tuple) and len(paper) == 0


def is_mask(value, pages):
    """Whether a value is a mask for so many pages."""
    return is_between(value, 0, (1 << (WIDTH * pages)) - 1)


def is_index(value, row):
    """Whether a value is an index of a tuple."""
    return is_between(value, 0, len(row) - 1)


def wide_mask_in(luck):
    """The index of the first outcome with a mask of more bits than a page has; None."""
    for index, outcome in enumerate(luck):
        if len(outcome) == 2 and not is_mask(outcome[1], 1):
            return index
    return None


def tree_left_by_program(image, block, page, word, mask):
    """The tree that a cut program leaves; None if what it leaves does not open."""
    chip = Chip(image, (("cut", mask),))
    try:
        chip.program(block, page, word)
    except PowerCut:
        pass
    return opened_tree(chip.image())


def tree_left_by_erase(image, block, mask):
    """The tree that a cut erase leaves; None if what it leaves does not open."""
    chip = Chip(image, (("cut", mask),))
    try:
        chip.erase(block)
    except PowerCut:
        pass
    return opened_tree(chip.image())


def is_told_image(parts):
    """Whether parts are those of a claim about an image alone."""
    return len(parts) == 1 and is_image(parts[0])


def is_told_tree(parts):
    """Whether parts are those of a claim about an image and a tree."""
    return len(parts) == 2 and is_image(parts[0]) and is_tree(parts[1])


def is_told_program(parts):
    """Whether parts are those of a claim about a program."""
    if len(parts) != 5 or not is_image(parts[0]) or not is_index(parts[1], parts[0]):
        return False
    image, block, page, word, tree = parts
    is_bad, _, pages = image[block]
    if is_bad or not is_index(page, pages) or not is_page(word) or not is_tree(tree):
        return False
    return opened_tree(image) is not None


def is_told_erase(parts):
    """Whether parts are those of a claim about an erase."""
    if len(parts) != 2 or not is_image(parts[0]) or not is_index(parts[1], parts[0]):
        return False
    image, block = parts
    return not image[block][0] and opened_tree(image) is not None


def is_told_play(parts):
    """Whether parts are those of a claim about what a store leaves."""
    if len(parts) != 5 or not is_image(parts[0]):
        return False
    image, spare, held, deeds, other = parts
    if not is_spare(spare, len(image)) or not is_held(held) or not are_played(deeds):
        return False
    return is_image(other) and opened_tree(image) is not None


def shows_open(parts, paper):
    """Whether an image opens to a tree."""
    return is_told_tree(parts) and is_none(paper) and opened_tree(parts[0]) == parts[1]


def shows_not_open(parts, paper):
    """Whether an image does not open to a tree."""
    return is_told_tree(parts) and is_none(paper) and opened_tree(parts[0]) != parts[1]


def shows_orderly(parts, paper):
    """Whether an image is orderly."""
    return is_told_image(parts) and is_none(paper) and findings(parts[0]) == ()


def shows_not_orderly(parts, paper):
    """Whether a paper is a finding of an image."""
    if not is_told_image(parts) or not isinstance(paper, tuple) or len(paper) != 3:
        return False
    word, block, page = paper
    if not isinstance(word, str) or not is_whole(block) or not is_whole(page):
        return False
    return paper in findings(parts[0])


def shows_program_kept(parts, paper):
    """Whether a program leaves an image that opens to its own tree or to another one told, whatever is left of it."""
    if not is_told_program(parts) or not is_none(paper):
        return False
    image, block, page, word, tree = parts
    if not is_blank(image[block][2][page]) or state_of(word) != "whole":
        return False
    return tree_left_by_program(image, block, page, word, 0) in (opened_tree(image), tree)


def shows_program_broken(parts, paper):
    """Whether a program with this mask leaves an image that opens neither to its own tree nor to the one told."""
    if not is_told_program(parts) or not is_mask(paper, 1):
        return False
    image, block, page, word, tree = parts
    return tree_left_by_program(image, block, page, word, paper) not in (opened_tree(image), tree)


def shows_erase_kept(parts, paper):
    """Whether an erase leaves an image that opens to its own tree, whatever is left of the block."""
    return is_told_erase(parts) and is_none(paper) and may_erase(parts[0], parts[1])


def shows_erase_broken(parts, paper):
    """Whether an erase with this mask leaves an image that does not open to its own tree."""
    if not is_told_erase(parts):
        return False
    image, block = parts
    if not is_mask(paper, len(image[block][2])):
        return False
    return tree_left_by_erase(image, block, paper) != opened_tree(image)


def shows_play(parts, paper):
    """Whether a store with this luck, behind all deeds and a sync, leaves the other image."""
    if not is_told_play(parts) or not is_luck(paper) or len(paper) > MOST_OUTCOMES or wide_mask_in(paper) is not None:
        return False
    image, spare, held, deeds, other = parts
    left, _, ended = played(image, paper, spare, held, deeds)
    return ended == "synced" and left == other


JUDGES = {
    "opens to": shows_open, "opens not to": shows_not_open, "orderly": shows_orderly,
    "not orderly": shows_not_orderly, "program keeps": shows_program_kept, "program breaks": shows_program_broken,
    "erase keeps": shows_erase_kept, "erase breaks": shows_erase_broken, "leads to": shows_play}


def accepts(claim, paper):
    """Whether a claim is one for the checker, and a paper shows that it is so; whatever both are."""
    if not isinstance(claim, tuple) or len(claim) == 0 or not isinstance(claim[0], str):
        return False
    if claim[0] not in JUDGES:
        return False
    judge = JUDGES[claim[0]]
    return judge(claim[1:], paper)
