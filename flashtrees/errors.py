"""The errors of this package: each stands under FlashError alone."""


class FlashError(ValueError):
    """Whatever this package raises."""


class InvalidPage(FlashError):
    """A value that is no page."""

    def __init__(self, given):
        self.given = given


class InvalidNumber(FlashError):
    """A value that is no whole number within the bounds told."""

    def __init__(self, given):
        self.given = given


class InvalidKey(FlashError):
    """A value that is no key."""

    def __init__(self, given):
        self.given = given


class InvalidValue(FlashError):
    """A value that is no value of a key."""

    def __init__(self, given):
        self.given = given


class InvalidTree(FlashError):
    """A value that is no tree."""

    def __init__(self, given):
        self.given = given


class InvalidDeed(FlashError):
    """A value that is no deed."""

    def __init__(self, given):
        self.given = given


class InvalidPath(FlashError):
    """A value that is no path."""

    def __init__(self, given):
        self.given = given


class InvalidLine(FlashError):
    """A value that is no line."""

    def __init__(self, given):
        self.given = given


class Refused(FlashError):
    """A deed is refused in a tree."""

    def __init__(self, word):
        self.word = word


class InvalidNumbers(FlashError):
    """A value that is no tuple of numbers."""

    def __init__(self, index):
        self.index = index


class InvalidImage(FlashError):
    """A value that is no image."""

    def __init__(self, index):
        self.index = index


class InvalidLuck(FlashError):
    """A value that is no luck."""

    def __init__(self, index):
        self.index = index


class InvalidBlocks(FlashError):
    """A value that is no ascending tuple of blocks."""

    def __init__(self, index):
        self.index = index


class InvalidTable(FlashError):
    """A value that is no table."""

    def __init__(self, index):
        self.index = index


class InvalidNotes(FlashError):
    """A value that is no tuple of notes."""

    def __init__(self, index):
        self.index = index


class PowerCut(FlashError):
    """The power is gone."""


class NotSound(FlashError):
    """A table is not sound, or would not be."""


class NotOrderly(FlashError):
    """An image does not open."""


class NoRoom(FlashError):
    """A deed has no room."""


class WornOut(FlashError):
    """The shelf can't go on: too many blocks are bad, or a count is at its end."""
