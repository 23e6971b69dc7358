"""What the arguments of many functions have to be."""

from flashtrees.errors import InvalidNumber


def is_whole(value):
    """Whether a value is a whole number; to Python, but not here, True and False are some."""
    return isinstance(value, int) and not isinstance(value, bool)


def is_from(value, least):
    """Whether a value is a whole number from LEAST on."""
    return is_whole(value) and value >= least


def is_between(value, least, most):
    """Whether a value is a whole number from LEAST up to MOST."""
    return is_whole(value) and least <= value <= most


def first_wrong(values, is_right):
    """The index of the first of the values that is not right; None if all are."""
    for index, value in enumerate(values):
        if not is_right(value):
            return index
    return None


def require_from(value, least):
    """InvalidNumber for no whole number from LEAST on."""
    if not is_from(value, least):
        raise InvalidNumber(value)


def require_between(value, least, most):
    """InvalidNumber for no whole number from LEAST up to MOST."""
    if not is_between(value, least, most):
        raise InvalidNumber(value)
