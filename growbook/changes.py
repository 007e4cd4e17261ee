"""Changes: an entry's text read row by row, and a table changed by it."""

from growbook.errors import BadRow
from growbook.errors import NoPlace
from growbook.table import in_depth

FIGURES = "0123456789"
MOST_FIGURES = 9


def is_key(word):
    return 0 < len(word) <= MOST_FIGURES and all([sign in FIGURES for sign in word])


def read_key(word, depth, place):
    if not is_key(word):
        raise BadRow(place)
    key = int(word)
    if not in_depth(key, depth):
        raise BadRow(place)
    return key


# The place is only told where the row is refused.
def read_at(row, depth, place):
    bare = row.lstrip(" ")
    if bare == "" or bare.startswith("#"):
        return None
    if bare.startswith("put "):
        parts = bare[len("put "):].partition(" ")
        # A row that ends with its key has no value, not even an empty one.
        if parts[1] == "":
            raise BadRow(place)
        return ("put", read_key(parts[0], depth, place), parts[2])
    if bare.startswith("cut "):
        return ("cut", read_key(bare[len("cut "):].rstrip(" "), depth, place))
    raise BadRow(place)


def read_row(row, depth):
    return read_at(row, depth, 0)


def read_rows(text, depth):
    steps = []
    for place, row in enumerate(text.split("\n")):
        step = read_at(row, depth, place)
        if step is not None:
            steps.append(step + (place,))
    return steps


def take_step(table, step, place):
    try:
        if step[0] == "put":
            table.put(step[1], step[2])
        else:
            table.cut(step[1])
    except NoPlace:
        raise BadRow(place) from None


# Each row is read and done before the next is read, so that of a key that isn't there and a row that can't be read
# the one that comes first is told.
def changed(table, text, depth):
    after = table.twin()
    for place, row in enumerate(text.split("\n")):
        step = read_at(row, depth, place)
        if step is not None:
            take_step(after, step, place)
    return after
