"""Lines for a desk: their words, and the numbers, paths, deeds and lucks that these tell."""

from flashtrees.pages import WIDTH
from flashtrees.trees import is_deed, is_path

FIGURES = "0123456789"
MOST_FIGURES = 180
MOST_OUTCOMES = 1000


def words_of(line):
    """The longest pieces of a line without blanks."""
    return [word for word in line.split(" ") if word != ""]


def number_of(word):
    """The number that a word tells; None if it tells none."""
    if len(word) > MOST_FIGURES or any([sign not in FIGURES for sign in word]):
        return None
    return None if word[0] == "0" and word != "0" else int(word)


def numbers_of(words):
    """The tuple of the numbers that words tell; None if one of them tells none."""
    numbers = tuple([number_of(word) for word in words])
    return None if None in numbers else numbers


def path_of(word):
    """The path that a word tells; None if it tells none."""
    if word == "/":
        return ()
    first, *names = word.split("/")
    path = tuple(names)
    return path if first == "" and is_path(path) else None


def path_text(path):
    """The word that tells a path."""
    return "/" + "/".join(path)


def deed_parts(words):
    """What words tell as the parts of a deed, None for each part that they do not tell; None for another form."""
    match words:
        case ["folder" | "file" | "remove", path]:
            return words[0], path_of(path)
        case ["write", path, at, *cells]:
            return "write", path_of(path), number_of(at), numbers_of(cells)
        case ["cut", path, length]:
            return "cut", path_of(path), number_of(length)
        case ["link" | "move", path, to]:
            return words[0], path_of(path), path_of(to)
    return None


def plain_deed_of(words):
    """The deed that words tell, none of them being "all"; None."""
    deed = deed_parts(words)
    return deed if is_deed(deed) else None


def deed_of(words):
    """The deed that words tell; None."""
    if words[0] != "all":
        return plain_deed_of(words)
    lines = [[]]
    for word in words[1:]:
        if word == ";":
            lines.append([])
        else:
            lines[-1].append(word)
    deed = ("all", tuple([plain_deed_of(line) for line in lines]))
    return deed if is_deed(deed) else None


def mask_of(word, pages):
    """The mask that a word tells for blocks of so many pages; None."""
    return (1 << (WIDTH * pages)) - 1 if word == "all" else number_of(word)


def luck_of(words, pages):
    """The luck that words tell for blocks of so many pages; None."""
    luck = []
    at = 0
    while at < len(words):
        if words[at] in ("cut", "fails"):
            mask = mask_of(words[at + 1], pages) if at + 1 < len(words) else None
            if mask is None:
                return None
            luck.append((words[at], mask))
            at += 2
        else:
            many = number_of(words[at])
            if many is None or many > MOST_OUTCOMES:
                return None
            luck += [("done",)] * many
            at += 1
        if len(luck) > MOST_OUTCOMES:
            return None
    return tuple(luck)
