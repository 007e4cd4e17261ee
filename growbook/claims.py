"""Claims: what may be said of a book, each judged by a seal, a size, a head and a paper."""

from growbook.errors import BadPaper
from growbook.stretches import book_seal
from growbook.stretches import grown
from growbook.stretches import leaf_seal
from growbook.stretches import none_seal
from growbook.stretches import risen
from growbook.table import fork_seal
from growbook.table import in_depth
from growbook.table import row_seal
from growbook.table import table_seal


# What == answers of told things is the user's affair; what is judged is True or False.
def same(one, other):
    return bool(one == other)


# True and False are no whole numbers, though Python takes them for such.
def is_number(thing):
    return isinstance(thing, int) and not isinstance(thing, bool)


def is_end(thing):
    if thing is None:
        return True
    return isinstance(thing, tuple) and len(thing) == 2 and is_number(thing[0]) and isinstance(thing[1], str)


def is_way(thing):
    return isinstance(thing, tuple) and len(thing) == 2 and isinstance(thing[0], list) and is_end(thing[1])


# The path is left to the rising, which refuses it by itself; the table's head may be anything.
def is_key_paper(thing):
    return isinstance(thing, tuple) and len(thing) == 4 and isinstance(thing[0], str) and is_way(thing[3])


# A way can't go by more parts than the key has bits, and what stands at its end lies in the part that it comes to.
def way_fits(key, depth, way):
    steps = len(way[0])
    if not in_depth(key, depth) or steps > depth:
        return False
    if way[1] is None:
        return True
    left = depth - steps
    return (way[1][0] >> left) == (key >> left)


# The top of the whole table that a fitting way comes to.
def top_of_way(seal, key, depth, way):
    if way[1] is None:
        top = none_seal(seal)
    else:
        top = row_seal(seal, way[1][0], way[1][1])
    bit = depth - len(way[0])
    for other in reversed(way[0]):
        if ((key >> bit) & 1) == 0:
            top = fork_seal(seal, top, other)
        else:
            top = fork_seal(seal, other, top)
        bit = bit + 1
    return top


def leaf_stands(seal, size, head, place, leaf, path):
    if place < 0 or place >= size:
        return False
    try:
        top = risen(seal, leaf, place, size, path)
    except BadPaper:
        return False
    return same(book_seal(seal, size, top), head)


# Whether the way in a paper of that form is the key's own behind the entry at the place, whatever it ends with.
def way_stands(seal, size, head, place, key, depth, paper):
    if not way_fits(key, depth, paper[3]):
        return False
    table = table_seal(seal, depth, top_of_way(seal, key, depth, paper[3]))
    if not same(table, paper[1]):
        return False
    # The head made here is sealed, not the paper's, which may be a thing that only passes for it.
    leaf = leaf_seal(seal, paper[0], table)
    return leaf_stands(seal, size, head, place, leaf, paper[2])


class Claim:
    # A bare claim says nothing that a paper could show.
    def judged(self, seal, size, head, paper):
        return False


class Stands(Claim):
    def __init__(self, place, text, table):
        self.place = place
        self.entry = text
        self.behind = table

    def judged(self, seal, size, head, paper):
        leaf = leaf_seal(seal, self.entry, self.behind)
        return leaf_stands(seal, size, head, self.place, leaf, paper)


class Grows(Claim):
    def __init__(self, old, head):
        self.old = old
        self.early = head

    def judged(self, seal, size, head, paper):
        if self.old < 0 or self.old > size:
            return False
        if self.old == 0:
            return self.judged_from_none(seal, size, head, paper)
        try:
            tops = grown(seal, self.old, size, paper)
        except BadPaper:
            return False
        return same(book_seal(seal, self.old, tops[0]), self.early) and same(book_seal(seal, size, tops[1]), head)

    # Every book goes on from the empty one, so the head judged by counts only where it is of the empty one too.
    def judged_from_none(self, seal, size, head, paper):
        if not isinstance(paper, list) or len(paper) > 0:
            return False
        empty = book_seal(seal, 0, none_seal(seal))
        if size == 0 and not same(empty, head):
            return False
        return same(empty, self.early)


class Holds(Claim):
    def __init__(self, place, key, value, depth):
        self.place = place
        self.key = key
        self.wanted = value
        self.depth = depth

    def judged(self, seal, size, head, paper):
        if not is_key_paper(paper):
            return False
        if not same(paper[3][1], (self.key, self.wanted)):
            return False
        return way_stands(seal, size, head, self.place, self.key, self.depth, paper)


class Lacks(Claim):
    def __init__(self, place, key, depth):
        self.place = place
        self.key = key
        self.depth = depth

    def judged(self, seal, size, head, paper):
        if not is_key_paper(paper):
            return False
        end = paper[3][1]
        if end is not None and end[0] == self.key:
            return False
        return way_stands(seal, size, head, self.place, self.key, self.depth, paper)
