"""Pages as whole numbers, and words that no cut can feign."""

from flashtrees.arguments import first_wrong, is_between, is_from, require_from
from flashtrees.errors import InvalidNumbers, InvalidPage

WIDTH = 522
BLANK = (1 << WIDTH) - 1

CHECK_WIDTH = 10
CHECKS = (1 << CHECK_WIDTH) - 1
DATA_WIDTH = WIDTH - CHECK_WIDTH
UNIT_WIDTH = 16
UNITS = DATA_WIDTH // UNIT_WIDTH
GREATEST_UNIT = (1 << UNIT_WIDTH) - 1
# The first unit tells how many numbers follow it.
MOST_NUMBERS = UNITS - 1
BOOK_SIZES = (1, 2, 4, 8, 16, 32, 64, 128, 256)


def is_page(value):
    """Whether a value, whatever it is, is a page."""
    return is_between(value, 0, BLANK)


def require_page(value):
    """InvalidPage for no page."""
    if not is_page(value):
        raise InvalidPage(value)


def is_unit(value):
    """Whether a value, whatever it is, is a number that a unit holds."""
    return is_between(value, 0, GREATEST_UNIT)


def require_units(numbers, least, most):
    """InvalidNumbers for no tuple of LEAST up to MOST numbers that a unit holds."""
    if not isinstance(numbers, tuple) or not least <= len(numbers) <= most:
        raise InvalidNumbers(None)
    wrong = first_wrong(numbers, is_unit)
    if wrong is not None:
        raise InvalidNumbers(wrong)


def require_numbers(numbers):
    """InvalidNumbers for what no page can tell."""
    require_units(numbers, 0, MOST_NUMBERS)


def lies_within(inner, outer):
    """Whether each bit that is 1 in INNER is 1 in OUTER, too."""
    return inner & outer == inner


def count_zeros(data):
    """How many bits of a page's data are 0."""
    bits = f"{data:b}"
    return DATA_WIDTH - bits.count("1")


def is_blank(page):
    """Whether all bits of a page are 1."""
    require_page(page)
    return page == BLANK


def is_within(page, other):
    """Whether PAGE lies within OTHER."""
    require_page(page)
    require_page(other)
    return lies_within(page, other)


def zeros_in(page):
    """How many bits of a page's data are 0."""
    require_page(page)
    return count_zeros(page >> CHECK_WIDTH)


def state_of(page):
    """Whether a page is "blank", "whole" or "half"."""
    if is_blank(page):
        return "blank"
    return "whole" if page & CHECKS == zeros_in(page) else "half"


def has_low_check(page):
    """Whether a page's check is below the number of its data's bits that are 0: an erase may make it whole."""
    return page & CHECKS < count_zeros(page >> CHECK_WIDTH)


def word_of(numbers):
    """The page that tells the numbers."""
    require_numbers(numbers)
    data = 0
    for unit in (len(numbers), *numbers):
        data = (data << UNIT_WIDTH) | unit
    data <<= UNIT_WIDTH * (MOST_NUMBERS - len(numbers))
    return (data << CHECK_WIDTH) | count_zeros(data)


def numbers_held(page):
    """The numbers that a whole page tells; None if it tells nothing."""
    many = page >> (WIDTH - UNIT_WIDTH)
    if many > MOST_NUMBERS:
        return None
    end = WIDTH - UNIT_WIDTH * (1 + many)
    behind = page & ((1 << end) - 1)
    if behind >> CHECK_WIDTH != 0:
        return None
    return tuple([(page >> shift) & GREATEST_UNIT for shift in range(WIDTH - 2 * UNIT_WIDTH, end - 1, -UNIT_WIDTH)])


def told_by(page):
    """The numbers that a page tells; None if it tells nothing."""
    return numbers_held(page) if state_of(page) == "whole" else None


def programmed(old, word, mask):
    """What a program leaves of the old page, if the bits of the mask are left."""
    require_page(old)
    require_page(word)
    require_from(mask, 0)
    return old & (word | mask)


def erased(old, mask):
    """What an erase leaves of the old page, if the bits of the mask become 1."""
    require_page(old)
    require_from(mask, 0)
    return old | (mask & BLANK)


def program_may_leave(old, word, result):
    """Whether a program of the old page with the word leaves the result by some mask."""
    require_page(old)
    require_page(word)
    require_page(result)
    return lies_within(result, old) and lies_within(old & word, result)


def erase_may_leave(old, result):
    """Whether an erase of the old page leaves the result by some mask."""
    require_page(old)
    require_page(result)
    return lies_within(old, result)


def require_checks(checks):
    """InvalidNumbers for what is no book's tuple of checks."""
    if not isinstance(checks, tuple) or len(checks) not in BOOK_SIZES:
        raise InvalidNumbers(None)
    wrong = first_wrong(checks, lambda check: is_from(check, 0))
    if wrong is not None:
        raise InvalidNumbers(wrong)


def clash(checks):
    """A pair (d, e) such that d clashes with e in the book; None if there is none."""
    require_checks(checks)
    for outer, outer_check in enumerate(checks):
        # What lies within a number, and is another one, is less than it.
        for inner in range(outer):
            if lies_within(inner, outer) and lies_within(checks[inner], outer_check):
                return inner, outer
    return None
