"""Tables for tests: wild ones, a reading of them straight from [D3] and [D4], and a model that numbers nodes."""

from tests.models import File, Model

NUMBERS = (1, 2, 3, 4, 5)


def some_value(luck, key):
    if key[0] == "name":
        return luck.choice((None,) + NUMBERS * 3)
    if key[0] == "node":
        return luck.choice((("folder", 0), ("file", 0), ("file", 3), ("file", 17), ("file", 256)))
    return luck.choice((None, (1,), (0,), (1, 2, 3), (0, 0), (5,) * 16))


def wild_table(luck):
    """A table of a few names, nodes and pieces, sound or not."""
    keys = {}
    for _ in range(luck.randrange(9)):
        keys["name", luck.choice((0, 0, 0) + NUMBERS), luck.choice("abc")] = True
    for number in luck.sample(NUMBERS, luck.choice((0, 3, 5, 5, 5))):
        keys["node", number] = True
    for _ in range(luck.randrange(4)):
        keys["piece", luck.choice(NUMBERS), luck.choice((0, 0, 1, 15))] = True
    return tuple([(key, some_value(luck, key)) for key in sorted(keys)])


class TableByHand:
    """What a table tells: each sentence by itself."""

    def __init__(self, table):
        self.table = {key: value for key, value in table if value is not None}
        self.ways = self.all_ways()
        self.reached = {0} | {way[-1][1] for way in self.ways}
        self.is_sound = not self.faults()

    def is_folder(self, number):
        return number == 0 or self.table.get(("node", number)) == ("folder", 0)

    def all_ways(self):
        """All ways of up to seven names from 0: tuples of pairs of a name and the number to which it leads."""
        ways, newest = [], [()]
        for _ in range(7):
            newest = [way + ((key[2], value),) for way in newest for key, value in self.table.items()
                      if key[0] == "name" and key[1] == (way[-1][1] if way else 0) and self.is_folder(key[1])]
            ways += newest
        return ways

    def faults(self):
        found = set()
        led = [value for key, value in self.table.items()
               if key[0] == "name" and key[1] in self.reached and self.is_folder(key[1])]
        for number in self.reached - {0}:
            if ("node", number) not in self.table:
                found.add("no node")
            elif self.is_folder(number) and led.count(number) > 1:
                found.add("two names")
        if any(len(way) > 6 for way in self.ways):
            found.add("deep")
        for key, value in self.table.items():
            if key[0] == "piece" and key[1] in self.reached and not self.is_folder(key[1]):
                if 16 * key[2] + len(value) > self.table.get(("node", key[1]), ("file", 999))[1]:
                    found.add("long piece")
        return found

    def live(self):
        wanted = {"name": lambda number: self.is_folder(number), "node": lambda number: True,
                  "piece": lambda number: not self.is_folder(number)}
        return tuple([key for key in sorted(self.table) if key[1] in self.reached and wanted[key[0]](key[1])])

    def cells(self, number):
        length = self.table["node", number][1]
        told = [(self.table.get(("piece", number, at // 16)) or ()) for at in range(length)]
        return [piece[at % 16] if at % 16 < len(piece) else 0 for at, piece in enumerate(told)]

    def model(self):
        """The model of trees that the table tells, and the number of each of its paths."""
        numbered = Numbered(1)
        numbered.at = {(): 0, **{tuple([name for name, _ in way]): way[-1][1] for way in self.ways}}
        numbered.kept = {number: None if self.is_folder(number) else self.cells(number) for number in self.reached}
        return numbered


class Numbered:
    """Paths and the numbers of their nodes; a folder's number has None, a file's its list of cells."""

    def __init__(self, first):
        self.at, self.kept, self.first = {(): 0}, {0: None}, first

    def do(self, kind, path, *rest):
        if kind == "all":
            for deed in path:
                self.do(*deed)
        elif kind in ("folder", "file"):
            self.at[path], self.kept[self.first] = self.first, None if kind == "folder" else []
            self.first += 1
        elif kind == "write":
            if rest[1]:
                cells = self.kept[self.at[path]] + [0] * 512
                end = max(len(self.kept[self.at[path]]), rest[0] + len(rest[1]))
                cells[rest[0]:rest[0] + len(rest[1])] = rest[1]
                self.kept[self.at[path]] = cells[:end]
        elif kind == "cut":
            self.kept[self.at[path]] = (self.kept[self.at[path]] + [0] * 256)[:rest[0]]
        elif kind == "link":
            self.at[rest[0]] = self.at[path]
        elif kind == "remove":
            del self.at[path]
        else:
            moved = {each: self.at.pop(each) for each in sorted(self.at) if each[:len(path)] == path}
            self.at.update({rest[0] + each[len(path):]: number for each, number in moved.items()})

    def due(self):
        """The values that are due, those alone that are not gone."""
        due = {("name", self.at[path[:-1]], path[-1]): number for path, number in self.at.items() if path}
        for number in set(self.at.values()) - {0}:
            cells = self.kept[number]
            due["node", number] = ("folder", 0) if cells is None else ("file", len(cells))
            for index in range(16 if cells else 0):
                piece = cells[16 * index:16 * index + 16]
                while piece and piece[-1] == 0:
                    piece.pop()
                if piece:
                    due["piece", number, index] = tuple(piece)
        return due

    def is_reached(self, key):
        """Whether a key has a due value, be it None."""
        if key[1] not in self.at.values() or key[0] == "node":
            return key[1] in self.at.values()
        return (self.kept[key[1]] is None) == (key[0] == "name")

    def notes(self, table):
        due, told = self.due(), dict(table)
        keys = [key for key in sorted(set(due) | set(told)) if self.is_reached(key)]
        return tuple([(key, due.get(key)) for key in keys if due.get(key) != told.get(key)])

    def plain(self):
        """The same as a model of trees without numbers."""
        model, files = Model(), {}
        for path, number in self.at.items():
            if self.kept[number] is not None and number not in files:
                files[number] = File()
                files[number].cells = list(self.kept[number])
            model.at[path] = files.get(number)
        return model
