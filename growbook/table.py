"""The table: keys of a bounded depth and their values, its head, and the way of a key."""

from growbook.errors import NoPlace
from growbook.stretches import none_seal


# The key's bits are counted since 1 << depth can't be made of every depth: not below 0, nor of a vast one.
def in_depth(key, depth):
    return key >= 0 and key.bit_length() <= depth


def row_seal(seal, key, value):
    return seal("row", key, value)


def fork_seal(seal, low, high):
    return seal("fork", low, high)


def table_seal(seal, depth, top):
    return seal("table", depth, top)


def part_of(rows, bit, side):
    return [row for row in rows if ((row[0] >> bit) & 1) == side]


# The keys of a part are alike but for their lowest bits, so many as told: by the highest of these it is parted.
def top_of_part(seal, rows, bits):
    if len(rows) == 0:
        return none_seal(seal)
    if len(rows) == 1:
        return row_seal(seal, rows[0][0], rows[0][1])
    bit = bits - 1
    low = top_of_part(seal, part_of(rows, bit, 0), bit)
    high = top_of_part(seal, part_of(rows, bit, 1), bit)
    return fork_seal(seal, low, high)


class Table:
    def __init__(self, seal, depth=8):
        self.seal = seal
        self.depth = depth
        self.held = {}

    def check(self, key):
        if not in_depth(key, self.depth):
            raise NoPlace("the key is out of the depth")

    def put(self, key, value):
        self.check(key)
        self.held[key] = value

    def cut(self, key):
        self.check(key)
        if key not in self.held:
            raise NoPlace("the key is not there")
        self.held.pop(key)

    def value(self, key):
        self.check(key)
        return self.held.get(key)

    def head(self):
        return table_seal(self.seal, self.depth, top_of_part(self.seal, self.rows(), self.depth))

    def way(self, key):
        self.check(key)
        others = []
        rows = self.rows()
        bit = self.depth
        while len(rows) > 1:
            bit = bit - 1
            side = (key >> bit) & 1
            others.append(top_of_part(self.seal, part_of(rows, bit, 1 - side), bit))
            rows = part_of(rows, bit, side)
        if len(rows) == 0:
            return (others, None)
        return (others, rows[0])

    def twin(self):
        other = Table(self.seal, self.depth)
        other.held = dict(self.held)
        return other

    def rows(self):
        return sorted(self.held.items())
