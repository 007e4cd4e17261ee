"""Point 17: claims that speak against each other are never both shown, whatever the head and the papers."""

import random
import unittest

from growbook.claims import Grows, Holds, Lacks, Stands
from tests.helper import numbering_seal, tuple_seal


def sealed(seal, tree):
    """What a seal tells of a tree, which is a tuple of a mark and two trees or plain things.

    Unlike trees may come to one thing: a numbering seal may tell 0 of "pair", 0 and 0. They are not unlike then.
    """
    if not isinstance(tree, tuple):
        return tree
    return seal(tree[0], sealed(seal, tree[1]), sealed(seal, tree[2]))


def nodes_of(tree, mark, ways=()):
    """Each node beneath seals of that mark, with the turns and the other parts that lead to it from the top down."""
    yield tree, list(ways)
    if isinstance(tree, tuple) and tree[0] == mark:
        yield from nodes_of(tree[1], mark, (*ways, (0, tree[2])))
        yield from nodes_of(tree[2], mark, (*ways, (1, tree[1])))


def some_leaf(chance):
    return chance.choice([
        ("leaf", "a", "T"), ("leaf", "b", "T"), ("leaf", "a", "U"), ("leaf", "a", ("leaf", "b", "T")), ("none", 0, 0),
        ("leaf", "c", "T"), ("leaf", "d", "T"), ("leaf", "e", "T"), ("leaf", "f", "T"), ("leaf", "g", "T"),
        ("row", 0, "a"), "junk", 0, None, ("book", 1, ("leaf", "a", "T")),
    ])


def some_pairs(chance, height):
    if height == 0 or chance.random() < 0.15:
        return some_leaf(chance)
    return ("pair", some_pairs(chance, height - 1), some_pairs(chance, height - 1))


def some_forks(chance, depth, height):
    """Parts laid by no order: rows where they don't belong, forks too many, forks of empty parts."""
    if height == 0 or chance.random() < 0.3:
        return chance.choice([
            ("none", 0, 0), ("none", 0, 0), ("leaf", "a", "T"), ("table", 1, ("none", 0, 0)), "junk", None,
            *[("row", chance.randint(0, (1 << depth) + 1), value) for value in ("a", "b", "", "a", "b", "")],
            ("row", -1, "a"), ("row", 0, None),
        ])
    return ("fork", some_forks(chance, depth, height - 1), some_forks(chance, depth, height - 1))


class Against(unittest.TestCase):
    def seals(self):
        return [tuple_seal, numbering_seal()]

    def told_entries(self, seal, size, head, top, place):
        """The entries at the place that some path shows."""
        told = set()
        for node, ways in nodes_of(top, "pair"):
            if isinstance(node, tuple):
                entry, table = node[1], node[2]
                path = [sealed(seal, other) for _, other in reversed(ways)]
                for count in range(len(path) + 1):
                    for paper in (path[:count], path[count:]):
                        if Stands(place, entry, sealed(seal, table)).judged(seal, size, head, paper):
                            told.add((entry, sealed(seal, table)))
        return told

    def test_two_unlike_entries_at_one_place(self):
        chance = random.Random(170)
        shown = 0
        for seal in self.seals():
            for _ in range(400):
                top = some_pairs(chance, chance.randint(0, 3))
                of = chance.randint(0, 9)
                head = seal("book", of, sealed(seal, top))
                for size in (of, of + 1):
                    for place in range(-1, size + 1):
                        told = self.told_entries(seal, size, head, top, place)
                        self.assertLessEqual(len(told), 1)
                        shown += len(told)
        self.assertGreater(shown, 300)

    def told_values(self, seal, size, head, entry, path, forks, key):
        """The values of the key that some way shows, None standing for no value."""
        told = set()
        text, table = entry[1], sealed(seal, entry[2])
        for node, ways in nodes_of(forks, "fork"):
            others = [sealed(seal, other) for _, other in ways]
            ends = [None, (key, "a"), (key, "b"), (key ^ 1, "a"), (key, "")]
            if isinstance(node, tuple):
                ends.append(node[1:])
            for tops in {0: others, 1: others[::-1], 2: others[1:]}.values():
                for end in ends:
                    paper = (text, table, path, (tops, end))
                    for depth in range(4):
                        for value in ("a", "b", ""):
                            if Holds(0, key, value, depth).judged(seal, size, head, paper):
                                told.add(value)
                        if Lacks(0, key, depth).judged(seal, size, head, paper):
                            told.add(None)
        return told

    def test_two_unlike_values_or_a_value_and_none_of_one_key(self):
        chance = random.Random(171)
        shown = {}
        for seal in self.seals():
            for _ in range(300):
                depth = chance.randint(0, 3)
                forks = some_forks(chance, depth, chance.randint(0, 4))
                entry = ("leaf", "text", ("table", depth, forks))
                rest = some_leaf(chance)
                size = chance.choice([1, 2])
                top = entry if size == 1 else ("pair", entry, rest)
                path = [] if size == 1 else [sealed(seal, rest)]
                head = seal("book", size, sealed(seal, top))
                for key in range(-1, (1 << depth) + 2):
                    told = self.told_values(seal, size, head, entry, path, forks, key)
                    self.assertLessEqual(len(told), 1, (forks, key, told))
                    for value in told:
                        shown[value] = shown.get(value, 0) + 1
        self.assertEqual(set(shown), {"a", "b", "", None})
        self.assertGreater(min(shown.values()), 10)

    def early_tops(self, node, ways):
        """Whatever tops of an earlier book the node could be made out to have, by some of the parts beside it."""
        tops = [node]
        for turn, other in reversed(ways):
            tops = tops + [("pair", other, top) if turn == 1 else ("pair", top, other) for top in tops]
        return tops

    def told_heads(self, seal, size, head, top, old):
        """The tops of the first so many entries that some growth shows."""
        told = set()
        for node, ways in nodes_of(top, "pair"):
            growth = [sealed(seal, node), *[sealed(seal, other) for _, other in reversed(ways)]]
            for early in [("none", 0, 0), *self.early_tops(node, ways)]:
                claim = Grows(old, seal("book", old, sealed(seal, early)))
                for paper in (growth, growth[1:], growth[:-1], []):
                    if claim.judged(seal, size, head, paper):
                        told.add(sealed(seal, early))
        return told

    def test_two_unlike_heads_of_one_old_size(self):
        chance = random.Random(172)
        shown = 0
        for seal in self.seals():
            for _ in range(120):
                top = some_pairs(chance, chance.randint(0, 3))
                of = chance.randint(0, 9)
                head = seal("book", of, sealed(seal, top))
                for size in (of, of + 1):
                    for old in range(-1, size + 2):
                        told = self.told_heads(seal, size, head, top, old)
                        self.assertLessEqual(len(told), 1, (top, size, old, told))
                        shown += len(told)
        self.assertGreater(shown, 500)

    def test_old_size_0_has_one_head_whatever_the_head_judged_by(self):
        for seal in self.seals():
            empty = seal("book", 0, seal("none", 0, 0))
            for size in range(4):
                for head in (empty, seal("book", size, "x"), "junk", 0, None):
                    for early in (seal("book", 0, "x"), seal("book", 1, seal("none", 0, 0)), "junk", None, head):
                        if not early == empty:
                            self.assertIs(Grows(0, early).judged(seal, size, head, []), False)

    def test_heads_that_are_no_seals_show_nothing(self):
        for head in (None, 0, "", "junk", (), [], ("book",), ("book", 1), ["book", 1, ("leaf", "a", "T")]):
            self.assertIs(Stands(0, "a", "T").judged(tuple_seal, 1, head, []), False)
            self.assertIs(Grows(1, head).judged(tuple_seal, 1, head, [("leaf", "a", "T")]), False)
            table = ("table", 8, ("none", 0, 0))
            self.assertIs(Lacks(0, 0, 8).judged(tuple_seal, 1, head, ("a", table, [], ([], None))), False)


if __name__ == "__main__":
    unittest.main()
