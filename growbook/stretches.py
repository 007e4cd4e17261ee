"""Rows of leaves: the seals of a book, the top of a row, the path of a place and the growth from a size."""

from growbook.errors import BadPaper


def split(size):
    # No power of two lies below a size under 2. An answer is given there all the same, as none is refused.
    if size < 2:
        return 1
    return 1 << ((size - 1).bit_length() - 1)


def none_seal(seal):
    return seal("none", 0, 0)


def leaf_seal(seal, text, table):
    return seal("leaf", text, table)


def pair_seal(seal, first, rest):
    return seal("pair", first, rest)


def book_seal(seal, size, top):
    return seal("book", size, top)


def top_of(seal, leaves):
    if len(leaves) == 0:
        return none_seal(seal)
    if len(leaves) == 1:
        return leaves[0]
    first = split(len(leaves))
    return pair_seal(seal, top_of(seal, leaves[:first]), top_of(seal, leaves[first:]))


def path_of(seal, leaves, place):
    if len(leaves) < 2:
        return []
    first = split(len(leaves))
    if place < first:
        return path_of(seal, leaves[:first], place) + [top_of(seal, leaves[first:])]
    return path_of(seal, leaves[first:], place - first) + [top_of(seal, leaves[:first])]


def growth_of(seal, leaves, old):
    if old < 1:
        return []
    # An old size above the row's own has no growth; it is told like the row's own, as none is refused.
    if old >= len(leaves):
        return [top_of(seal, leaves)]
    first = split(len(leaves))
    if old <= first:
        return growth_of(seal, leaves[:first], old) + [top_of(seal, leaves[first:])]
    return growth_of(seal, leaves[first:], old - first) + [top_of(seal, leaves[:first])]


# A path runs from the leaf up, but which half holds the place is found from the whole row down.
def turns_of(place, size):
    turns = []
    while size > 1:
        first = split(size)
        if place < first:
            turns.append("first")
            size = first
        else:
            turns.append("rest")
            place = place - first
            size = size - first
    return turns


def risen(seal, leaf, place, size, path):
    turns = turns_of(place, size)
    if not isinstance(path, list):
        raise BadPaper("a path is a list")
    if len(path) != len(turns):
        raise BadPaper("the path is not as long as one of that place in that size")
    top = leaf
    for turn, other in zip(reversed(turns), path):
        if turn == "first":
            top = pair_seal(seal, top, other)
        else:
            top = pair_seal(seal, other, top)
    return top


# As in a path, but it ends with the stretch that is the last of the first so many leaves.
def growth_turns(old, size):
    turns = []
    while old < size:
        first = split(size)
        if old <= first:
            turns.append("first")
            size = first
        else:
            turns.append("rest")
            old = old - first
            size = size - first
    return turns


# The two tops that a growth comes to, that of the first so many leaves and that of all, for an old size of 1 or more.
def grown(seal, old, size, growth):
    turns = growth_turns(old, size)
    if not isinstance(growth, list):
        raise BadPaper("a growth is a list")
    if len(growth) != len(turns) + 1:
        raise BadPaper("the growth is not as long as one from that size to that size")
    before = growth[0]
    after = growth[0]
    for turn, other in zip(reversed(turns), growth[1:]):
        if turn == "first":
            after = pair_seal(seal, after, other)
        else:
            before = pair_seal(seal, other, before)
            after = pair_seal(seal, other, after)
    return (before, after)
