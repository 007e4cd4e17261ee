"""Seals to test with, papers to bend, and the document's own words, written apart from the program."""

import re

from growbook.keeper import Keeper

PASSED = re.compile(r" *(#.*)?")
PUT = re.compile(r" *put ([0-9]{1,9}) (.*)")
CUT = re.compile(r" *cut ([0-9]{1,9}) *")


def tuple_seal(mark, one, other):
    return (mark, one, other)


def list_seal(mark, one, other):
    """Its things can't stand in a dict or set, and can be changed."""
    return [mark, one, other]


def empty_seal(mark, one, other):
    """All that it tells is None, which nothing but judging is barred from."""
    return None


def numbering_seal():
    """A seal that numbers unlike threes in the order in which they come: from 0 up, or from -1 down."""
    numbers = {}
    others = []

    def seal(mark, one, other):
        three = (mark, one, other)
        try:
            return numbers.setdefault(three, len(numbers))
        except TypeError:
            # A list can't stand in a dict, but a seal is one of any things, and a bent paper may hold a list.
            if three not in others:
                others.append(three)
            return -1 - others.index(three)

    return seal


def noting_seal(calls):
    """A seal that notes each three it is given."""

    def seal(mark, one, other):
        calls.append((mark, one, other))
        return (mark, one, other)

    return seal


class Stern:
    """A thing that can be held against others by == alone: whatever else is asked of it fails."""

    def __init__(self, three):
        self.three = three

    def __eq__(self, other):
        return isinstance(other, Stern) and self.three == other.three

    def refuse(self, *rest):
        raise AssertionError("a told thing was asked for more than ==")

    __hash__ = __bool__ = __len__ = __iter__ = __getitem__ = __ne__ = refuse
    __lt__ = __le__ = __gt__ = __ge__ = __contains__ = __int__ = __index__ = __str__ = __repr__ = refuse


def stern_seal(mark, one, other):
    return Stern((mark, one, other))


def all_seals():
    return [tuple_seal, list_seal, empty_seal, numbering_seal(), stern_seal]


def judging_seals():
    """Those that point 2 asks for: unlike threes have unlike seals, and none of these is None."""
    return [tuple_seal, list_seal, numbering_seal(), stern_seal]


def leaves_of(count):
    return [f"leaf {place}" for place in range(count)]


def plain_split(size):
    """The greatest power of two below the size (point 3)."""
    power = 1
    while power * 2 < size:
        power *= 2
    return power


def plain_top(seal, leaves):
    """Point 3."""
    if not leaves:
        return seal("none", 0, 0)
    if len(leaves) == 1:
        return leaves[0]
    k = plain_split(len(leaves))
    return seal("pair", plain_top(seal, leaves[:k]), plain_top(seal, leaves[k:]))


def plain_path(seal, leaves, place):
    """Point 5."""
    if len(leaves) == 1:
        return []
    k = plain_split(len(leaves))
    if place < k:
        return [*plain_path(seal, leaves[:k], place), plain_top(seal, leaves[k:])]
    return [*plain_path(seal, leaves[k:], place - k), plain_top(seal, leaves[:k])]


def plain_growth(seal, leaves, old):
    """Point 6."""
    if old == 0:
        return []
    if old == len(leaves):
        return [plain_top(seal, leaves)]
    k = plain_split(len(leaves))
    if old <= k:
        return [*plain_growth(seal, leaves[:k], old), plain_top(seal, leaves[k:])]
    return [*plain_growth(seal, leaves[k:], old - k), plain_top(seal, leaves[:k])]


def bits_of(key, depth):
    """The key's bits as a text, the highest one first."""
    return format(key, "b").zfill(depth)


def plain_table_top(seal, held, depth, ahead=""):
    """Point 7: the top of the part whose keys begin with the bits ahead."""
    here = {key: value for key, value in held.items() if bits_of(key, depth).startswith(ahead)}
    if not here:
        return seal("none", 0, 0)
    if len(here) == 1:
        [(key, value)] = here.items()
        return seal("row", key, value)
    low = plain_table_top(seal, here, depth, ahead + "0")
    high = plain_table_top(seal, here, depth, ahead + "1")
    return seal("fork", low, high)


def plain_table_head(seal, held, depth):
    """Point 7."""
    return seal("table", depth, plain_table_top(seal, held, depth))


def plain_way(seal, held, depth, key):
    """Point 8."""
    bits = bits_of(key, depth)
    others = []
    for count in range(depth + 1):
        here = [row for row in held.items() if bits_of(row[0], depth).startswith(bits[:count])]
        if len(here) <= 1:
            return (others, here[0] if here else None)
        other = bits[:count] + ("1" if bits[count] == "0" else "0")
        others.append(plain_table_top(seal, held, depth, other))
    raise AssertionError("two keys are alike")


def plain_row(row, depth):
    """Point 9 for one row: a tuple, None for a row that is passed over, or "bad"."""
    if PASSED.fullmatch(row):
        return None
    found = PUT.fullmatch(row)
    if found and int(found[1]) < 1 << depth:
        return ("put", int(found[1]), found[2])
    found = CUT.fullmatch(row)
    if found and int(found[1]) < 1 << depth:
        return ("cut", int(found[1]))
    return "bad"


def plain_changed(held, text, depth):
    """Point 9: the keys and values behind the text, or the place of the first row that is refused."""
    after = dict(held)
    for place, row in enumerate(text.split("\n")):
        change = plain_row(row, depth)
        if change == "bad" or (change and change[0] == "cut" and change[1] not in after):
            return place
        if change and change[0] == "put":
            after[change[1]] = change[2]
        elif change:
            after.pop(change[1])
    return after


class PlainBook:
    """Points 10, 11 and 15."""

    def __init__(self, seal, depth, texts):
        self.seal = seal
        self.depth = depth
        self.texts = texts
        self.held = []
        held = {}
        for text in texts:
            held = plain_changed(held, text, depth)
            self.held.append(held)
        self.tables = [plain_table_head(seal, held, depth) for held in self.held]
        self.leaves = [seal("leaf", text, table) for text, table in zip(texts, self.tables)]

    def head(self, size):
        return self.seal("book", size, plain_top(self.seal, self.leaves[:size]))

    def path(self, place, size):
        return plain_path(self.seal, self.leaves[:size], place)

    def growth(self, old, size):
        return plain_growth(self.seal, self.leaves[:size], old)

    def way(self, place, key):
        return plain_way(self.seal, self.held[place], self.depth, key)

    def paper(self, place, key, size):
        return (self.texts[place], self.tables[place], self.path(place, size), self.way(place, key))


def some_text(chance, held, depth, most):
    """A text of up to so many rows, of which none is refused where these keys are there."""
    held = dict(held)
    rows = []
    for _ in range(chance.randint(0, most)):
        kind = chance.randint(0, 5)
        ahead = " " * chance.choice([0, 0, 0, 2])
        if kind == 0:
            rows.append(ahead + chance.choice(["", "# a remark", "#"]))
        elif kind == 1 and held:
            key = chance.choice(sorted(held))
            held.pop(key)
            rows.append(f"{ahead}cut {key}" + " " * chance.choice([0, 0, 3]))
        else:
            key = chance.randrange(1 << depth)
            held[key] = chance.choice(["", "a", "b", " a ", "put 1 b", "#"])
            rows.append(f"{ahead}put {str(key).zfill(chance.randint(1, 9))} {held[key]}")
    return "\n".join(rows)


def some_texts(chance, count, depth, most=4):
    """The texts of a book of so many entries."""
    held = {}
    texts = []
    for _ in range(count):
        texts.append(some_text(chance, held, depth, most))
        held = plain_changed(held, texts[-1], depth)
    return texts


def kept(seal, depth, texts):
    """The program's keeper of a book with these texts."""
    keeper = Keeper(seal, depth)
    for text in texts:
        keeper.add(text)
    return keeper


def bent_lists(tops, things):
    """A list with a top changed, left out, put in or exchanged, and what is no list; some may be as they were."""
    for place in range(len(tops)):
        yield tops[:place] + tops[place + 1:]
        for thing in things:
            yield tops[:place] + [thing] + tops[place + 1:]
    for place in range(len(tops) + 1):
        for thing in [*things, *tops[:1]]:
            yield tops[:place] + [thing] + tops[place:]
    for place in range(len(tops) - 1):
        yield tops[:place] + [tops[place + 1], tops[place]] + tops[place + 2:]
    yield tops[::-1]
    yield [tops]
    yield (tops,)
    yield tuple(tops)
    yield dict(enumerate(tops))
    yield from (None, "", "path", 0, 1, True, False, (), {}, 1.5, b"")


def bent_ends(end):
    """Other ends of a way, and what is none."""
    yield from (None, (), [], "", 0, True, False, (0,), (0, ""), (0, "a"), (1, "b"), (1, None), ("0", "a"), ("a", 0))
    yield from ((-1, "a"), (1.0, "a"), (True, "a"), (False, "a"), ("", ""), (None, None), (0, "a", "a"), [0, "a"])
    if end:
        key, value = end
        yield from ([key, value], (key, value, None), (key,), (value, key), (key + 1, value), (key - 1, value))
        yield from ((key, value + " "), (key, None), (None, value), (float(key), value), (key, [value]), (end,))


def bent_ways(way, things):
    tops, end = way
    yield from ((other, end) for other in bent_lists(tops, things))
    yield from ((tops, other) for other in bent_ends(end))
    yield from ([tops, end], (tops,), (end, tops), (tops, end, None), (tops, end, end), way + way, tops, end, None, ())


def bent_papers(paper, things):
    """Papers of point 15 bent in each part; some may be as they were."""
    text, table, path, way = paper
    yield from ((other, table, path, way) for other in (text + " ", text + "\n", "", None, 0, [text], (text,), b""))
    yield from ((text, other, path, way) for other in [*things, [table], (table,)])
    yield from ((text, table, other, way) for other in bent_lists(path, things))
    yield from ((text, table, path, other) for other in bent_ways(way, things))
    yield from (list(paper), paper[:3], paper[1:], paper + (None,), paper + (way,), (paper,), [paper], paper[::-1])
    yield from ((table, text, path, way), (text, table, way, path), (text, path, table, way))
    yield from (None, (), [], "", 0, True, False, {}, path, way, text, (None,) * 4, ("", None, [], ([], None)))


def alike(one, other):
    """Whether two papers are the same in their kinds too: 1 and True are not, nor 1 and 1.0."""
    if type(one) is not type(other):
        return False
    if isinstance(one, (list, tuple)):
        return len(one) == len(other) and all(alike(part, piece) for part, piece in zip(one, other))
    return one == other
