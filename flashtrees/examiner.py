"""What an image shows: where it is not orderly, and which blocks may be erased."""

from flashtrees.arguments import require_between
from flashtrees.chip import require_image
from flashtrees.notes import COPY, END
from flashtrees.surveys import survey_of


def same_orders(blocks):
    """The findings of listed blocks that have the order of one ahead of them."""
    found = []
    before = None
    for block, order in blocks:
        if order == before:
            found.append(("same order", block, 0))
        before = order
    return found


class Ahead:
    """What is told by the notes ahead of the one that is looked at."""

    def __init__(self):
        self._ended = {}
        self._greatest = 0
        self._deeds = {}
        self._values = {}

    def words_of_deed(self, deed, flag):
        """The words for a note of a deed that stands here; it is ahead of all later ones."""
        if flag == COPY:
            return []
        words = ["ended"] if deed in self._ended else []
        if deed < self._greatest:
            words.append("turned back")
        self._greatest = max(self._greatest, deed)
        if flag == END:
            self._ended[deed] = True
        return words

    def words_of_key(self, deed, key, value):
        """The words for a counting note that stands here; it is ahead of all later ones."""
        words = ["elder behind"] if deed < self._deeds.get(key, 0) else []
        values = self._values.setdefault((deed, key), {})
        if len(values) > 1 or (len(values) == 1 and value not in values):
            words.append("unlike")
        values[value] = True
        self._deeds[key] = max(deed, self._deeds.get(key, 0))
        return words


def findings(image):
    """Where an image is not orderly: tuples of a word, a block and a page, in the order of the listed blocks."""
    require_image(image)
    survey = survey_of(image)
    places = {note[:2]: True for note in survey.counting()}
    ahead = Ahead()
    notes = []
    for block, page, deed, flag, key, value in survey.notes():
        words = ahead.words_of_deed(deed, flag)
        if (block, page) in places:
            words += ahead.words_of_key(deed, key, value)
        notes += [(word, block, page) for word in words]
    found = []
    orders = same_orders(survey.listed)
    for block, _ in survey.listed:
        found += [each for each in orders + notes if each[1] == block]
    return tuple(found)


def may_erase(image, block):
    """Whether a block may be erased, whatever an erase leaves of it."""
    require_image(image)
    require_between(block, 0, len(image) - 1)
    return survey_of(image).may_erase(block)
