"""Seals to test with, and the document's own words on rows and tables, written apart from the program."""


def tuple_seal(mark, one, other):
    return (mark, one, other)


def list_seal(mark, one, other):
    """Its things can't stand in a dict or set, and can be changed."""
    return [mark, one, other]


def empty_seal(mark, one, other):
    """All that it tells is None, which nothing but judging is barred from."""
    return None


def numbering_seal():
    """A seal that numbers unlike threes from 0 in the order in which they come."""
    numbers = {}

    def seal(mark, one, other):
        return numbers.setdefault((mark, one, other), len(numbers))

    return seal


def noting_seal(calls):
    """A seal that notes each three it is given."""

    def seal(mark, one, other):
        calls.append((mark, one, other))
        return (mark, one, other)

    return seal


class Stern:
    """A thing that can be held against others by == alone: whatever else is asked of it fails."""

    def __init__(self, three):
        self.three = three

    def __eq__(self, other):
        return isinstance(other, Stern) and self.three == other.three

    def refuse(self, *rest):
        raise AssertionError("a told thing was asked for more than ==")

    __hash__ = __bool__ = __len__ = __iter__ = __getitem__ = __ne__ = refuse
    __lt__ = __le__ = __gt__ = __ge__ = __contains__ = __int__ = __index__ = __str__ = __repr__ = refuse


def stern_seal(mark, one, other):
    return Stern((mark, one, other))


def all_seals():
    return [tuple_seal, list_seal, empty_seal, numbering_seal(), stern_seal]


def leaves_of(count):
    return [f"leaf {place}" for place in range(count)]


def plain_split(size):
    """The greatest power of two below the size (point 3)."""
    power = 1
    while power * 2 < size:
        power *= 2
    return power


def plain_top(seal, leaves):
    """Point 3."""
    if not leaves:
        return seal("none", 0, 0)
    if len(leaves) == 1:
        return leaves[0]
    k = plain_split(len(leaves))
    return seal("pair", plain_top(seal, leaves[:k]), plain_top(seal, leaves[k:]))


def plain_path(seal, leaves, place):
    """Point 5."""
    if len(leaves) == 1:
        return []
    k = plain_split(len(leaves))
    if place < k:
        return [*plain_path(seal, leaves[:k], place), plain_top(seal, leaves[k:])]
    return [*plain_path(seal, leaves[k:], place - k), plain_top(seal, leaves[:k])]


def plain_growth(seal, leaves, old):
    """Point 6."""
    if old == 0:
        return []
    if old == len(leaves):
        return [plain_top(seal, leaves)]
    k = plain_split(len(leaves))
    if old <= k:
        return [*plain_growth(seal, leaves[:k], old), plain_top(seal, leaves[k:])]
    return [*plain_growth(seal, leaves[k:], old - k), plain_top(seal, leaves[:k])]


def bits_of(key, depth):
    """The key's bits as a text, the highest one first."""
    return format(key, "b").zfill(depth)


def plain_table_top(seal, held, depth, ahead=""):
    """Point 7: the top of the part whose keys begin with the bits ahead."""
    here = {key: value for key, value in held.items() if bits_of(key, depth).startswith(ahead)}
    if not here:
        return seal("none", 0, 0)
    if len(here) == 1:
        [(key, value)] = here.items()
        return seal("row", key, value)
    low = plain_table_top(seal, here, depth, ahead + "0")
    high = plain_table_top(seal, here, depth, ahead + "1")
    return seal("fork", low, high)


def plain_table_head(seal, held, depth):
    """Point 7."""
    return seal("table", depth, plain_table_top(seal, held, depth))


def plain_way(seal, held, depth, key):
    """Point 8."""
    bits = bits_of(key, depth)
    others = []
    for count in range(depth + 1):
        here = [row for row in held.items() if bits_of(row[0], depth).startswith(bits[:count])]
        if len(here) <= 1:
            return (others, here[0] if here else None)
        other = bits[:count] + ("1" if bits[count] == "0" else "0")
        others.append(plain_table_top(seal, held, depth, other))
    raise AssertionError("two keys are alike")
