"""A model of trees for tests: nodes by their whole paths, a file being one object under all its names."""

import copy

NAMES = ("a", "b", "c-", "0", ".")


class File:
    def __init__(self):
        self.cells = []


class Model:
    """What [D1] and [D2] say, path by path; None stands for a folder."""

    def __init__(self):
        self.at = {(): None}

    def is_file(self, path):
        return isinstance(self.at.get(path), File)

    def stop(self, path):
        for many in range(len(path)):
            if self.is_file(path[:many]):
                return "no folder"
            if path[:many + 1] not in self.at:
                return "missing"
        return None

    def stop_of_place(self, path):
        return self.stop(path[:-1]) or ("no folder" if self.is_file(path[:-1]) else None)

    def within(self, path):
        return [each for each in self.at if each[:len(path)] == path and each != path]

    def ways(self, path, to):
        """How many names ways have once all at and within PATH stands at and within TO."""
        return [len(to) + len(each) - len(path) for each in [path] + self.within(path)]

    def words(self, deed):
        """The words of a deed in their order, each with whether it is so; one is looked at only if none ahead is."""
        kind, path = deed[:2]
        if kind in ("folder", "file"):
            yield from self.words_of_new(path)
        elif kind in ("write", "cut", "link"):
            yield self.stop(path), self.stop(path)
            yield "is folder", not self.is_file(path)
            if kind == "write":
                yield "too great", len(deed[3]) > 0 and deed[2] + len(deed[3]) > 256
            if kind == "link":
                yield from self.words_of_new(deed[2])
        else:
            yield "root", path == ()
            yield self.stop(path), self.stop(path)
            if kind == "remove":
                yield "not empty", self.within(path)
            else:
                yield from self.words_of_move(path, deed[2])

    def words_of_new(self, path):
        yield "exists", path == ()
        yield self.stop_of_place(path), self.stop_of_place(path)
        yield "exists", path in self.at

    def words_of_move(self, path, to):
        yield "exists", to == ()
        yield "into itself", not self.is_file(path) and to[:len(path)] == path and len(to) > len(path)
        yield self.stop_of_place(to), self.stop_of_place(to)
        yield "exists", to in self.at and not (self.is_file(path) and self.is_file(to))
        yield "too deep", max(self.ways(path, to)) > 6

    def refusal(self, deed):
        if deed[0] != "all":
            return next((word for word, is_so in self.words(deed) if is_so), None)
        model = self
        for each in deed[1]:
            word = model.refusal(each)
            if word is not None:
                return word
            model = model.behind(each)
        return None

    def behind(self, deed):
        model = copy.deepcopy(self)
        for each in deed[1] if deed[0] == "all" else (deed,):
            model.do(*each)
        return model

    def do(self, kind, path, *rest):
        if kind in ("folder", "file"):
            self.at[path] = File() if kind == "file" else None
        elif kind == "write":
            for index, cell in enumerate(rest[1]):
                cells = self.at[path].cells
                cells += [0] * (rest[0] + index + 1 - len(cells))
                cells[rest[0] + index] = cell
        elif kind == "cut":
            self.at[path].cells = [([*self.at[path].cells] + [0] * 256)[index] for index in range(rest[0])]
        elif kind == "link":
            self.at[rest[0]] = self.at[path]
        elif kind == "remove":
            del self.at[path]
        else:
            moved = [(each, self.at.pop(each)) for each in [path] + self.within(path)]
            self.at.update([(rest[0] + each[len(path):], node) for each, node in moved])

    def tree(self):
        """The tree, its files numbered by all their paths in order."""
        numbers = {}
        for path in sorted(self.at):
            if self.is_file(path):
                numbers.setdefault(id(self.at[path]), len(numbers))
        return self.node((), numbers)

    def node(self, path, numbers):
        if self.is_file(path):
            return ("file", numbers[id(self.at[path])], tuple(self.at[path].cells))
        inner = sorted([each for each in self.within(path) if len(each) == len(path) + 1])
        return ("folder", tuple([(each[-1], self.node(each, numbers)) for each in inner]))

    def links(self, path):
        return tuple(sorted([each for each in self.at if self.is_file(path) and self.at[each] is self.at[path]]))


def some_path(luck, model):
    """A path that is there, or near one, or any one."""
    paths, kind = sorted(model.at), luck.random()
    there = max([luck.choice(paths) for _ in range(luck.choice((1, 1, 3)))], key=len)
    if kind < 0.45:
        return there
    if kind < 0.85:
        return (there + (luck.choice(NAMES),))[:6]
    return tuple([luck.choice(NAMES) for _ in range(luck.randrange(7))])


def some_cells(luck):
    many = luck.choice((0, 1, 2, 3, 16, 17, 255, 256))
    return tuple([luck.choice((0, 1, 65535, luck.getrandbits(16))) for _ in range(many)])


PLAIN = ("folder", "file", "write", "cut", "link", "move", "folder", "file", "write", "cut", "link", "move", "remove")


def some_deed(luck, model, words=PLAIN + ("all",)):
    """Any deed, more often than not one that is done."""
    tries = luck.choice((1, 2, 9))
    for _ in range(tries):
        deed = any_deed(luck, model, words)
        if model.refusal(deed) is None:
            break
    return deed


def any_deed(luck, model, words):
    kind, path = luck.choice(words), some_path(luck, model)
    if kind == "write":
        return (kind, path, luck.choice((0, 1, 2, 5, 16, 240, 255, 256)), some_cells(luck))
    if kind == "cut":
        return (kind, path, luck.choice((0, 1, 2, 5, 16, 17, 255, 256)))
    if kind in ("link", "move"):
        return (kind, path, some_path(luck, model))
    if kind == "all":
        return (kind, some_deeds(luck, model))
    return (kind, path)


def some_deeds(luck, model):
    """One to eight deeds, most of them done behind those ahead of them."""
    deeds = []
    for _ in range(luck.randint(1, 8)):
        deed = any_deed(luck, model, PLAIN)
        if model.refusal(deed) is None:
            model = model.behind(deed)
        elif luck.random() < 0.9:
            continue
        deeds.append(deed)
    return tuple(deeds) or (("folder", ("a",)),)
