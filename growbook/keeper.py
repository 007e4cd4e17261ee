"""The keeper: a book, the table that its entries change, and the heads and papers of both."""

from growbook.changes import changed
from growbook.errors import NoPlace
from growbook.stretches import book_seal
from growbook.stretches import growth_of
from growbook.stretches import leaf_seal
from growbook.stretches import path_of
from growbook.stretches import top_of
from growbook.table import Table


def check_place(place, size):
    if place < 0 or place >= size:
        raise NoPlace("the place isn't within the size")


class Keeper:
    def __init__(self, seal, depth=8):
        self.seal = seal
        self.depth = depth
        self.texts = []
        self.leaves = []
        # One table behind each entry, and ahead of them the empty one that the first entry changes.
        self.tables = [Table(seal, depth)]

    def add(self, text):
        # Whatever can fail comes first, so that a refused text leaves the book as it was.
        table = changed(self.tables[-1], text, self.depth)
        leaf = leaf_seal(self.seal, text, table.head())
        self.texts.append(text)
        self.leaves.append(leaf)
        self.tables.append(table)
        return len(self.texts) - 1

    def size(self):
        return len(self.texts)

    def size_or_whole(self, size):
        if size is None:
            return len(self.texts)
        if size < 0 or size > len(self.texts):
            raise NoPlace("the book doesn't have that size")
        return size

    def table_behind(self, place):
        check_place(place, len(self.texts))
        return self.tables[place + 1]

    def text(self, place):
        check_place(place, len(self.texts))
        return self.texts[place]

    def table_head(self, place):
        return self.table_behind(place).head()

    def head(self, size=None):
        count = self.size_or_whole(size)
        return book_seal(self.seal, count, top_of(self.seal, self.leaves[:count]))

    def path(self, place, size=None):
        count = self.size_or_whole(size)
        check_place(place, count)
        return path_of(self.seal, self.leaves[:count], place)

    def growth(self, old, size=None):
        count = self.size_or_whole(size)
        if old < 0 or old > count:
            raise NoPlace("the old size isn't one up to the size")
        return growth_of(self.seal, self.leaves[:count], old)

    def way(self, place, key):
        return self.table_behind(place).way(key)

    def paper(self, place, key, size=None):
        path = self.path(place, size)
        return (self.text(place), self.table_head(place), path, self.way(place, key))
