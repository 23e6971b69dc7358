"""Certificates: claims about images, each with a paper that the checker accepts."""

from flashtrees.arguments import require_between
from flashtrees.checker import MOST_OUTCOMES, accepts, wide_mask_in
from flashtrees.chip import require_image, require_luck
from flashtrees.errors import InvalidLuck
from flashtrees.examiner import findings
from flashtrees.pages import BLANK, WIDTH, require_page
from flashtrees.shelf import require_spare
from flashtrees.store import opened_tree, played, require_deeds, require_held, require_open
from flashtrees.trees import require_tree

# So many of a page's lowest bits are left in the masks that are tried.
TRIED_WIDTHS = (0, 1, 2, 4, 8, 16, 32, 64, 128, 256, 512, 522)


def with_first_paper(claim, papers):
    """The pair of a claim and the first of the papers that the checker accepts for it; None."""
    for paper in papers:
        if accepts(claim, paper):
            return claim, paper
    return None


def certify_image(image):
    """A certificate that an image is orderly, or that it is not."""
    found = findings(image)
    if found == ():
        return ("orderly", image), ()
    return ("not orderly", image), found[0]


def certify_opens(image, tree):
    """A certificate that an image opens to a tree, or that it does not."""
    require_image(image)
    require_tree(tree)
    word = "opens to" if opened_tree(image) == tree else "opens not to"
    return (word, image, tree), ()


def certify_program(image, block, page, word, tree):
    """A certificate that a program keeps or breaks what an image opens to; None if no mask that is tried shows it."""
    require_image(image)
    require_between(block, 0, len(image) - 1)
    require_between(page, 0, len(image[block][2]) - 1)
    require_page(word)
    require_tree(tree)
    require_open(image)
    kept = with_first_paper(("program keeps", image, block, page, word, tree), ((),))
    if kept is not None:
        return kept
    masks = [(1 << width) - 1 for width in TRIED_WIDTHS]
    return with_first_paper(("program breaks", image, block, page, word, tree), masks)


def certify_erase(image, block):
    """A certificate that an erase keeps or breaks what an image opens to; None if no mask that is tried shows it."""
    require_image(image)
    require_between(block, 0, len(image) - 1)
    require_open(image)
    kept = with_first_paper(("erase keeps", image, block), ((),))
    if kept is not None:
        return kept
    size = len(image[block][2])
    masks = [(1 << (WIDTH * size)) - 1] + [BLANK << (WIDTH * page) for page in range(size)]
    return with_first_paper(("erase breaks", image, block), masks)


def certify_played(image, luck, spare, held, deeds):
    """A certificate of what a store leaves behind deeds and a sync; None if it does not come to its end."""
    require_image(image)
    require_luck(luck)
    wide = wide_mask_in(luck)
    if wide is not None:
        raise InvalidLuck(wide)
    require_spare(spare, len(image))
    require_held(held)
    require_deeds(deeds)
    require_open(image)
    if len(luck) > MOST_OUTCOMES:
        return None
    left, _, ended = played(image, luck, spare, held, deeds)
    if ended != "synced":
        return None
    return ("leads to", image, spare, held, deeds, left), luck
